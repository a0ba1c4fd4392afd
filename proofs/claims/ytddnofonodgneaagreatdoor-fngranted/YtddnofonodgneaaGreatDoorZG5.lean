/-
  What granted_card needs, part 5.
-/
import Derived.Test.YtddnofonodgneaaGreatDoorZG4
import Derived.Deep.RegionWith
import Derived.Deep.RegionHeld3
namespace Go.Proofs.YtddnofonodgneaaGreatDoor
open Go.RowKit

theorem putLsN {t : TypeId} {w : World} {B g n cap : Nat} {ps : List Ls} (h : OwnG KLs t w B (.slice (some ⟨g, 0, none⟩) n cap) ps) (hn : n = ps.length) (j : Nat) (hj : j < n) (q : Ls) {x0 : Bool} {x1 x2 : Int} {x3 : ByteArray} {x4 x5 : Int} (e0 : q.a.s = x0) (e1 : q.a.H.toInt = x1) (e2 : q.a.L.toInt = x2) (e3 : q.t = x3) (e4 : q.k = x4) (e5 : q.u = x5) :
    OwnG KLs t ((((((w.setCell ⟨g, j * 6, none⟩ (.bool x0)).setCell ⟨g, j * 6 + 1, none⟩ (.int .i64 x1)).setCell ⟨g, j * 6 + 2, none⟩ (.int .i64 x2)).setCell ⟨g, j * 6 + 3, none⟩ (.string x3)).setCell ⟨g, j * 6 + 4, none⟩ (.int .i64 x4)).setCell ⟨g, j * 6 + 5, none⟩ (.int .i64 x5)) B (.slice (some ⟨g, 0, none⟩) n cap) (ps.set j q) := by
  subst e0 e1 e2 e3 e4 e5
  exact putLs h hn j hj q
theorem lm_at (ls : List Ls) (p : Ls) (i : Nat) (h : i < ls.length) : ((ls ++ [p]).take (i + 1 + 1) ++ ls.drop (i + 1))[i]? = ls[i]? := by
  rw [List.getElem?_append_left (by rw [List.length_take, List.length_append]; simp; omega), List.getElem?_take_of_lt (by omega), List.getElem?_append_left h]
theorem cmpW_gt (a b : Nat) : decide (0 < cmpW (a : Int) (b : Int)) = decide (b < a) := by
  unfold cmpW
  by_cases h : (a : Int) < b
  · simp [h]; omega
  · by_cases h2 : (b : Int) < a
    · simp [h, h2]; omega
    · simp [h, h2]; omega
def Stp (p : Prop) : Prop := p
theorem stp {p : Prop} (h : Stp p) : p := h
theorem box6B (w : World) (t : TypeId) (u0 u1 u2 u3 u4 u5 : Value) : (w.alloc (.cells #[u0, u1, u2, u3, u4, u5] t)).cell? ⟨w.heap.size, 0, none⟩ = some u0 ∧ (w.alloc (.cells #[u0, u1, u2, u3, u4, u5] t)).cell? ⟨w.heap.size, 1, none⟩ = some u1 ∧ (w.alloc (.cells #[u0, u1, u2, u3, u4, u5] t)).cell? ⟨w.heap.size, 2, none⟩ = some u2 ∧ (w.alloc (.cells #[u0, u1, u2, u3, u4, u5] t)).cell? ⟨w.heap.size, 3, none⟩ = some u3 ∧ (w.alloc (.cells #[u0, u1, u2, u3, u4, u5] t)).cell? ⟨w.heap.size, 4, none⟩ = some u4 ∧ (w.alloc (.cells #[u0, u1, u2, u3, u4, u5] t)).cell? ⟨w.heap.size, 5, none⟩ = some u5 := by
  refine ⟨?_, ?_, ?_, ?_, ?_, ?_⟩ <;> simp [go_sem]
theorem frz_grownZ {w w' : World} {r : Option Nat} {b o : Nat} (hg : w.grownBy w' r) (hb : b < w.heap.size) (h : w.frozen? ⟨b, o, none⟩ = false) (hne : ∀ k, r = some k → k ≠ b) : w'.frozen? ⟨b, o, none⟩ = false :=
  (World.frozen?_of_block (w := w) (hg.block b hb (fun e => hne b e.symm rfl))).trans h

set_option maxRecDepth 10000 in
set_option maxHeartbeats 4000000 in
theorem sGr_yes (a : Option Addr) (n c : Nat) (T N : Int) (ls : List Ls) (ad : Ad) (own : ByteArray) (span : Int) (w : World) (hn : n = ls.length) (hB : RowG KLs w a ls) (hl : n ≤ 1048576) (hc : a = none → c = 0) (hst : ∀ q ∈ ls, q.t.size ≤ 9223372036854775807) (hos : own.size ≤ 9223372036854775807) (hr : gokB ls T N ad own span = true) (hx : fxL ls ad = none) (h80 : n < 80) (I : Nat) (hI : LowAt ls ad I) :
    Calls Tryz.prog 8 #[.agg #[.slice a n c, .int .i64 T, .int .i64 N], .agg #[.bool ad.s, .int .i64 ad.H.toInt, .int .i64 ad.L.toInt], .string own, .int .i64 span] w fun e w' => ∃ a' c', e = .returned (.tuple #[.agg #[.slice a' (n + 1) c', .int .i64 (T + 1), .int .i64 N], .int .i64 (T + 1), .int .i64 0]) ∧ OwnG KLs 35 w' w.heap.size (.slice a' (n + 1) c') (ls.take I ++ [(⟨ad, own, T + 1, N + span⟩ : Ls)] ++ ls.drop I) ∧ Below w.heap.size w w' := by
  have HOn := hidP (fun W => sOwnerOk_any own W hos)
  have HI := hidP (l1InO_any span 1 1000)
  have HFi := hidP (fun W h => l6Find_any a n c T N ls ad W hn (hB.later h) hl)
  have HOw := hidP (fun W h => l6Copy_any (a) n c T N ls W hn (hB.later h) hc hl)
  have HSp := hidP (fun W h => sBookOk_any (a) n c T N ls W hn (hB.later h) hl hst)
  have HAd := hidP (sAddrOk_any ad.s ad.H.toInt ad.L.toInt)
  have HN := hidP hn
  have HR := hidP (fun W h => hB.later (w' := W) h)
  have hok : ad.ok = okB ad.s ad.H.toInt ad.L.toInt := rfl
  obtain ⟨_, hwN, _⟩ := gr_ok hr
  unfold gokB at hr
  simp only [Bool.and_eq_true] at hr
  obtain ⟨hb, ho, hw, ⟨⟨h1, h1b⟩, h2⟩, hT0⟩ := hr
  have h1c : (decide (1 ≤ span) && decide (span ≤ 1000)) = true := by rw [h1, h1b]; rfl
  obtain ⟨hw1, hw2⟩ := sp_wrap (bk_now hb) h1c
  have h3 : decide ((1000000000 : Int) < N + span) = false := by have := of_decide_eq_true h2; exact decide_eq_false (by omega)
  have hT : (T == 1000000000) = false := by simpa using hT0
  have hTb := bk_tok hb
  have hwT : IntKind.i64.wrap (T + 1) = T + 1 := by rw [IntKind.wrap_i64]; omega
  have HS := hidP (srt_bk hb).1
  have HAo := hidP ho
  rw [hok] at ho
  rw [hb] at HSp
  rw [ho] at HAd
  rw [hw] at HOn
  rw [h1c] at HI
  have e80 : ((n : Int) == 80) = false := by rw [beq_eq_false_iff_ne]; omega
  have hfi : fxI ls ad = -1 := by unfold fxI; rw [hx]
  have HFI := hidP hfi
  have HLo := hidP hI
  have HXn : Hid (∀ (j : Nat) (r : Ls), ls[j]? = some r → r.a.key ≠ ad.key) := hidP (fun j r hr he => by
    unfold fxL at hx
    rw [List.findIdx?_eq_none_iff] at hx
    have := hx r (List.mem_of_getElem? hr)
    rw [he] at this
    simp at this)
  clear hB hn hst hok hos hc hb ho hw h1 h1b h1c h2 hT0 hTb hfi hI hx
  go_enter Tryz.func8, Tryz.ntmps8
  go_wp2_with fail
  obtain ⟨bk0_W1, bk1_W1, bk2_W1⟩ := box3B w 26 (.slice a n c) (.int .i64 T) (.int .i64 N)
  have bkF_W1 : ∀ o, (w.alloc (.cells #[.slice a n c, .int .i64 T, .int .i64 N] 26)).frozen? ⟨w.heap.size, o, none⟩ = false := fun o => by simp [go_sem]
  have bkL_W1 : w.heap.size < (w.alloc (.cells #[.slice a n c, .int .i64 T, .int .i64 N] 26)).heap.size := by simp
  have ab_W1 := alloc_below w (.cells #[.slice a n c, .int .i64 T, .int .i64 N] 26)
  have as_W1 : Hid ((w.alloc (.cells #[.slice a n c, .int .i64 T, .int .i64 N] 26)).heap.size = w.heap.size + 1) := hidP (by simp)
  generalize w.alloc (.cells #[.slice a n c, .int .i64 T, .int .i64 N] 26) = W1 at *
  have acc_W1 := hidP (ab_W1)
  have sz_W1 : Hid (w.heap.size ≤ W1.heap.size) := hidP ab_W1.size
  clear ab_W1 
  obtain ⟨at0_W2, at1_W2, at2_W2⟩ := box3B W1 28 (.bool ad.s) (.int .i64 ad.H.toInt) (.int .i64 ad.L.toInt)
  have atF_W2 : ∀ o, (W1.alloc (.cells #[.bool ad.s, .int .i64 ad.H.toInt, .int .i64 ad.L.toInt] 28)).frozen? ⟨W1.heap.size, o, none⟩ = false := fun o => by simp [go_sem]
  have atL_W2 : W1.heap.size < (W1.alloc (.cells #[.bool ad.s, .int .i64 ad.H.toInt, .int .i64 ad.L.toInt] 28)).heap.size := by simp
  have ab_W2 := alloc_below W1 (.cells #[.bool ad.s, .int .i64 ad.H.toInt, .int .i64 ad.L.toInt] 28)
  have as_W2 : Hid ((W1.alloc (.cells #[.bool ad.s, .int .i64 ad.H.toInt, .int .i64 ad.L.toInt] 28)).heap.size = W1.heap.size + 1) := hidP (by simp)
  generalize W1.alloc (.cells #[.bool ad.s, .int .i64 ad.H.toInt, .int .i64 ad.L.toInt] 28) = W2 at *
  have bk0_W2 := (ab_W2.cell bkL_W1).trans bk0_W1
  have bk1_W2 := (ab_W2.cell bkL_W1).trans bk1_W1
  have bk2_W2 := (ab_W2.cell bkL_W1).trans bk2_W1
  have bkF_W2 : ∀ o, W2.frozen? ⟨w.heap.size, o, none⟩ = false := fun o => (ab_W2.frozen bkL_W1).trans (bkF_W1 o)
  have bkL_W2 : w.heap.size < W2.heap.size := Nat.lt_of_lt_of_le bkL_W1 ab_W2.size
  have acc_W2 := hidP (acc_W1.out.trans (ab_W2.mono acc_W1.out.size))
  have sz_W2 : Hid (W1.heap.size ≤ W2.heap.size) := hidP ab_W2.size
  clear ab_W2 bk0_W1 bk1_W1 bk2_W1 bkF_W1 bkL_W1 acc_W1
  rw [as_W1.out] at at0_W2 at1_W2 at2_W2 atL_W2
  have atF_W2' : ∀ o, W2.frozen? ⟨w.heap.size + 1, o, none⟩ = false := fun o => by have := atF_W2 o; rw [as_W1.out] at this; exact this
  clear atF_W2
  have atF_W2 := atF_W2'
  clear atF_W2'
  obtain ⟨rs0_W3, rs1_W3, rs2_W3⟩ := box3B W2 26 (.slice none 0 0) (.int .i64 0) (.int .i64 0)
  have rsF_W3 : ∀ o, (W2.alloc (.cells #[.slice none 0 0, .int .i64 0, .int .i64 0] 26)).frozen? ⟨W2.heap.size, o, none⟩ = false := fun o => by simp [go_sem]
  have rsL_W3 : W2.heap.size < (W2.alloc (.cells #[.slice none 0 0, .int .i64 0, .int .i64 0] 26)).heap.size := by simp
  have ab_W3 := alloc_below W2 (.cells #[.slice none 0 0, .int .i64 0, .int .i64 0] 26)
  have as_W3 : Hid ((W2.alloc (.cells #[.slice none 0 0, .int .i64 0, .int .i64 0] 26)).heap.size = W2.heap.size + 1) := hidP (by simp)
  generalize W2.alloc (.cells #[.slice none 0 0, .int .i64 0, .int .i64 0] 26) = W3 at *
  have bk0_W3 := (ab_W3.cell bkL_W2).trans bk0_W2
  have bk1_W3 := (ab_W3.cell bkL_W2).trans bk1_W2
  have bk2_W3 := (ab_W3.cell bkL_W2).trans bk2_W2
  have bkF_W3 : ∀ o, W3.frozen? ⟨w.heap.size, o, none⟩ = false := fun o => (ab_W3.frozen bkL_W2).trans (bkF_W2 o)
  have bkL_W3 : w.heap.size < W3.heap.size := Nat.lt_of_lt_of_le bkL_W2 ab_W3.size
  have at0_W3 := (ab_W3.cell atL_W2).trans at0_W2
  have at1_W3 := (ab_W3.cell atL_W2).trans at1_W2
  have at2_W3 := (ab_W3.cell atL_W2).trans at2_W2
  have atF_W3 : ∀ o, W3.frozen? ⟨w.heap.size + 1, o, none⟩ = false := fun o => (ab_W3.frozen atL_W2).trans (atF_W2 o)
  have atL_W3 : w.heap.size + 1 < W3.heap.size := Nat.lt_of_lt_of_le atL_W2 ab_W3.size
  have acc_W3 := hidP (acc_W2.out.trans (ab_W3.mono acc_W2.out.size))
  have sz_W3 : Hid (W2.heap.size ≤ W3.heap.size) := hidP ab_W3.size
  clear ab_W3 bk0_W2 bk1_W2 bk2_W2 bkF_W2 bkL_W2 at0_W2 at1_W2 at2_W2 atF_W2 atL_W2 acc_W2
  rw [as_W2.out, as_W1.out] at rs0_W3 rs1_W3 rs2_W3 rsL_W3
  have rsF_W3' : ∀ o, W3.frozen? ⟨w.heap.size + 1 + 1, o, none⟩ = false := fun o => by have := rsF_W3 o; rw [as_W2.out, as_W1.out] at this; exact this
  clear rsF_W3
  have rsF_W3 := rsF_W3'
  clear rsF_W3'
  refine (HOw.out _ acc_W3.out).mono ?_
  rintro e w4 ⟨a3, c3, rfl, og3, hb4⟩
  have og3' := hidP og3
  clear og3
  have bk0_w4 := (hb4.cell bkL_W3).trans bk0_W3
  have bk1_w4 := (hb4.cell bkL_W3).trans bk1_W3
  have bk2_w4 := (hb4.cell bkL_W3).trans bk2_W3
  have bkF_w4 : ∀ o, w4.frozen? ⟨w.heap.size, o, none⟩ = false := fun o => (hb4.frozen bkL_W3).trans (bkF_W3 o)
  have bkL_w4 : w.heap.size < w4.heap.size := Nat.lt_of_lt_of_le bkL_W3 hb4.size
  have at0_w4 := (hb4.cell atL_W3).trans at0_W3
  have at1_w4 := (hb4.cell atL_W3).trans at1_W3
  have at2_w4 := (hb4.cell atL_W3).trans at2_W3
  have atF_w4 : ∀ o, w4.frozen? ⟨w.heap.size + 1, o, none⟩ = false := fun o => (hb4.frozen atL_W3).trans (atF_W3 o)
  have atL_w4 : w.heap.size + 1 < w4.heap.size := Nat.lt_of_lt_of_le atL_W3 hb4.size
  have rs0_w4 := (hb4.cell rsL_W3).trans rs0_W3
  have rs1_w4 := (hb4.cell rsL_W3).trans rs1_W3
  have rs2_w4 := (hb4.cell rsL_W3).trans rs2_W3
  have rsF_w4 : ∀ o, w4.frozen? ⟨w.heap.size + 1 + 1, o, none⟩ = false := fun o => (hb4.frozen rsL_W3).trans (rsF_W3 o)
  have rsL_w4 : w.heap.size + 1 + 1 < w4.heap.size := Nat.lt_of_lt_of_le rsL_W3 hb4.size
  have acc_w4 := hidP (acc_W3.out.trans (hb4.mono acc_W3.out.size))
  have sz_w4 : Hid (W3.heap.size ≤ w4.heap.size) := hidP hb4.size
  clear hb4 bk0_W3 bk1_W3 bk2_W3 bkF_W3 bkL_W3 at0_W3 at1_W3 at2_W3 atF_W3 atL_W3 rs0_W3 rs1_W3 rs2_W3 rsF_W3 rsL_W3 acc_W3
  have oL_w4 := hidP (og3'.out)
  have lhL : Hid (∀ k, (Value.slice a3 n c3).ownBlock = some k → W3.heap.size ≤ k ∧ k < w4.heap.size) := hidP (fun k hk => OwnG.lt oL_w4.out k hk)
  clear og3'
  go_wp2_with fail
  obtain ⟨ou0_W5, ou1_W5, ou2_W5⟩ := box3B w4 26 (.slice a3 n c3) (.int .i64 T) (.int .i64 N)
  have ouF_W5 : ∀ o, (w4.alloc (.cells #[.slice a3 n c3, .int .i64 T, .int .i64 N] 26)).frozen? ⟨w4.heap.size, o, none⟩ = false := fun o => by simp [go_sem]
  have ouL_W5 : w4.heap.size < (w4.alloc (.cells #[.slice a3 n c3, .int .i64 T, .int .i64 N] 26)).heap.size := by simp
  have ab_W5 := alloc_below w4 (.cells #[.slice a3 n c3, .int .i64 T, .int .i64 N] 26)
  have as_W5 : Hid ((w4.alloc (.cells #[.slice a3 n c3, .int .i64 T, .int .i64 N] 26)).heap.size = w4.heap.size + 1) := hidP (by simp)
  generalize w4.alloc (.cells #[.slice a3 n c3, .int .i64 T, .int .i64 N] 26) = W5 at *
  have bk0_W5 := (ab_W5.cell bkL_w4).trans bk0_w4
  have bk1_W5 := (ab_W5.cell bkL_w4).trans bk1_w4
  have bk2_W5 := (ab_W5.cell bkL_w4).trans bk2_w4
  have bkF_W5 : ∀ o, W5.frozen? ⟨w.heap.size, o, none⟩ = false := fun o => (ab_W5.frozen bkL_w4).trans (bkF_w4 o)
  have bkL_W5 : w.heap.size < W5.heap.size := Nat.lt_of_lt_of_le bkL_w4 ab_W5.size
  have at0_W5 := (ab_W5.cell atL_w4).trans at0_w4
  have at1_W5 := (ab_W5.cell atL_w4).trans at1_w4
  have at2_W5 := (ab_W5.cell atL_w4).trans at2_w4
  have atF_W5 : ∀ o, W5.frozen? ⟨w.heap.size + 1, o, none⟩ = false := fun o => (ab_W5.frozen atL_w4).trans (atF_w4 o)
  have atL_W5 : w.heap.size + 1 < W5.heap.size := Nat.lt_of_lt_of_le atL_w4 ab_W5.size
  have rs0_W5 := (ab_W5.cell rsL_w4).trans rs0_w4
  have rs1_W5 := (ab_W5.cell rsL_w4).trans rs1_w4
  have rs2_W5 := (ab_W5.cell rsL_w4).trans rs2_w4
  have rsF_W5 : ∀ o, W5.frozen? ⟨w.heap.size + 1 + 1, o, none⟩ = false := fun o => (ab_W5.frozen rsL_w4).trans (rsF_w4 o)
  have rsL_W5 : w.heap.size + 1 + 1 < W5.heap.size := Nat.lt_of_lt_of_le rsL_w4 ab_W5.size
  have oL_W5 := hidP (OwnG.later oL_w4.out ab_W5)
  have acc_W5 := hidP (acc_w4.out.trans (ab_W5.mono acc_w4.out.size))
  have sz_W5 : Hid (w4.heap.size ≤ W5.heap.size) := hidP ab_W5.size
  clear ab_W5 bk0_w4 bk1_w4 bk2_w4 bkF_w4 bkL_w4 at0_w4 at1_w4 at2_w4 atF_w4 atL_w4 rs0_w4 rs1_w4 rs2_w4 rsF_w4 rsL_w4 oL_w4 acc_w4
  refine (HSp.out _ acc_W5.out).mono ?_
  rintro e w6 ⟨rfl, hb6⟩
  have bk0_w6 := (hb6.cell bkL_W5).trans bk0_W5
  have bk1_w6 := (hb6.cell bkL_W5).trans bk1_W5
  have bk2_w6 := (hb6.cell bkL_W5).trans bk2_W5
  have bkF_w6 : ∀ o, w6.frozen? ⟨w.heap.size, o, none⟩ = false := fun o => (hb6.frozen bkL_W5).trans (bkF_W5 o)
  have bkL_w6 : w.heap.size < w6.heap.size := Nat.lt_of_lt_of_le bkL_W5 hb6.size
  have at0_w6 := (hb6.cell atL_W5).trans at0_W5
  have at1_w6 := (hb6.cell atL_W5).trans at1_W5
  have at2_w6 := (hb6.cell atL_W5).trans at2_W5
  have atF_w6 : ∀ o, w6.frozen? ⟨w.heap.size + 1, o, none⟩ = false := fun o => (hb6.frozen atL_W5).trans (atF_W5 o)
  have atL_w6 : w.heap.size + 1 < w6.heap.size := Nat.lt_of_lt_of_le atL_W5 hb6.size
  have rs0_w6 := (hb6.cell rsL_W5).trans rs0_W5
  have rs1_w6 := (hb6.cell rsL_W5).trans rs1_W5
  have rs2_w6 := (hb6.cell rsL_W5).trans rs2_W5
  have rsF_w6 : ∀ o, w6.frozen? ⟨w.heap.size + 1 + 1, o, none⟩ = false := fun o => (hb6.frozen rsL_W5).trans (rsF_W5 o)
  have rsL_w6 : w.heap.size + 1 + 1 < w6.heap.size := Nat.lt_of_lt_of_le rsL_W5 hb6.size
  have ou0_w6 := (hb6.cell ouL_W5).trans ou0_W5
  have ou1_w6 := (hb6.cell ouL_W5).trans ou1_W5
  have ou2_w6 := (hb6.cell ouL_W5).trans ou2_W5
  have ouF_w6 : ∀ o, w6.frozen? ⟨w4.heap.size, o, none⟩ = false := fun o => (hb6.frozen ouL_W5).trans (ouF_W5 o)
  have ouL_w6 : w4.heap.size < w6.heap.size := Nat.lt_of_lt_of_le ouL_W5 hb6.size
  have oL_w6 := hidP (OwnG.later oL_W5.out hb6)
  have acc_w6 := hidP (acc_W5.out.trans (hb6.mono acc_W5.out.size))
  have sz_w6 : Hid (W5.heap.size ≤ w6.heap.size) := hidP hb6.size
  clear hb6 bk0_W5 bk1_W5 bk2_W5 bkF_W5 bkL_W5 at0_W5 at1_W5 at2_W5 atF_W5 atL_W5 rs0_W5 rs1_W5 rs2_W5 rsF_W5 rsL_W5 ou0_W5 ou1_W5 ou2_W5 ouF_W5 ouL_W5 oL_W5 acc_W5
  go_wp2_with fail
  refine (HAd.out _).mono ?_
  rintro e w7 ⟨rfl, hb7⟩
  have bk0_w7 := (hb7.cell bkL_w6).trans bk0_w6
  have bk1_w7 := (hb7.cell bkL_w6).trans bk1_w6
  have bk2_w7 := (hb7.cell bkL_w6).trans bk2_w6
  have bkF_w7 : ∀ o, w7.frozen? ⟨w.heap.size, o, none⟩ = false := fun o => (hb7.frozen bkL_w6).trans (bkF_w6 o)
  have bkL_w7 : w.heap.size < w7.heap.size := Nat.lt_of_lt_of_le bkL_w6 hb7.size
  have at0_w7 := (hb7.cell atL_w6).trans at0_w6
  have at1_w7 := (hb7.cell atL_w6).trans at1_w6
  have at2_w7 := (hb7.cell atL_w6).trans at2_w6
  have atF_w7 : ∀ o, w7.frozen? ⟨w.heap.size + 1, o, none⟩ = false := fun o => (hb7.frozen atL_w6).trans (atF_w6 o)
  have atL_w7 : w.heap.size + 1 < w7.heap.size := Nat.lt_of_lt_of_le atL_w6 hb7.size
  have rs0_w7 := (hb7.cell rsL_w6).trans rs0_w6
  have rs1_w7 := (hb7.cell rsL_w6).trans rs1_w6
  have rs2_w7 := (hb7.cell rsL_w6).trans rs2_w6
  have rsF_w7 : ∀ o, w7.frozen? ⟨w.heap.size + 1 + 1, o, none⟩ = false := fun o => (hb7.frozen rsL_w6).trans (rsF_w6 o)
  have rsL_w7 : w.heap.size + 1 + 1 < w7.heap.size := Nat.lt_of_lt_of_le rsL_w6 hb7.size
  have ou0_w7 := (hb7.cell ouL_w6).trans ou0_w6
  have ou1_w7 := (hb7.cell ouL_w6).trans ou1_w6
  have ou2_w7 := (hb7.cell ouL_w6).trans ou2_w6
  have ouF_w7 : ∀ o, w7.frozen? ⟨w4.heap.size, o, none⟩ = false := fun o => (hb7.frozen ouL_w6).trans (ouF_w6 o)
  have ouL_w7 : w4.heap.size < w7.heap.size := Nat.lt_of_lt_of_le ouL_w6 hb7.size
  have oL_w7 := hidP (OwnG.later oL_w6.out hb7)
  have acc_w7 := hidP (acc_w6.out.trans (hb7.mono acc_w6.out.size))
  have sz_w7 : Hid (w6.heap.size ≤ w7.heap.size) := hidP hb7.size
  clear hb7 bk0_w6 bk1_w6 bk2_w6 bkF_w6 bkL_w6 at0_w6 at1_w6 at2_w6 atF_w6 atL_w6 rs0_w6 rs1_w6 rs2_w6 rsF_w6 rsL_w6 ou0_w6 ou1_w6 ou2_w6 ouF_w6 ouL_w6 oL_w6 acc_w6
  go_wp2_with fail
  refine (HOn.out _).mono ?_
  rintro e w8' ⟨rfl, hw8'⟩
  rw [hw8']
  clear hw8' w8'
  go_wp2_with fail
  refine (HI.out _).mono ?_
  rintro e w9' ⟨rfl, hw9'⟩
  rw [hw9']
  clear hw9' w9'
  go_wp2_with fail
  refine (HFi.out _ acc_w7.out).mono ?_
  rintro e w8 ⟨rfl, hb8⟩
  have bk0_w8 := (hb8.cell bkL_w7).trans bk0_w7
  have bk1_w8 := (hb8.cell bkL_w7).trans bk1_w7
  have bk2_w8 := (hb8.cell bkL_w7).trans bk2_w7
  have bkF_w8 : ∀ o, w8.frozen? ⟨w.heap.size, o, none⟩ = false := fun o => (hb8.frozen bkL_w7).trans (bkF_w7 o)
  have bkL_w8 : w.heap.size < w8.heap.size := Nat.lt_of_lt_of_le bkL_w7 hb8.size
  have at0_w8 := (hb8.cell atL_w7).trans at0_w7
  have at1_w8 := (hb8.cell atL_w7).trans at1_w7
  have at2_w8 := (hb8.cell atL_w7).trans at2_w7
  have atF_w8 : ∀ o, w8.frozen? ⟨w.heap.size + 1, o, none⟩ = false := fun o => (hb8.frozen atL_w7).trans (atF_w7 o)
  have atL_w8 : w.heap.size + 1 < w8.heap.size := Nat.lt_of_lt_of_le atL_w7 hb8.size
  have rs0_w8 := (hb8.cell rsL_w7).trans rs0_w7
  have rs1_w8 := (hb8.cell rsL_w7).trans rs1_w7
  have rs2_w8 := (hb8.cell rsL_w7).trans rs2_w7
  have rsF_w8 : ∀ o, w8.frozen? ⟨w.heap.size + 1 + 1, o, none⟩ = false := fun o => (hb8.frozen rsL_w7).trans (rsF_w7 o)
  have rsL_w8 : w.heap.size + 1 + 1 < w8.heap.size := Nat.lt_of_lt_of_le rsL_w7 hb8.size
  have ou0_w8 := (hb8.cell ouL_w7).trans ou0_w7
  have ou1_w8 := (hb8.cell ouL_w7).trans ou1_w7
  have ou2_w8 := (hb8.cell ouL_w7).trans ou2_w7
  have ouF_w8 : ∀ o, w8.frozen? ⟨w4.heap.size, o, none⟩ = false := fun o => (hb8.frozen ouL_w7).trans (ouF_w7 o)
  have ouL_w8 : w4.heap.size < w8.heap.size := Nat.lt_of_lt_of_le ouL_w7 hb8.size
  have oL_w8 := hidP (OwnG.later oL_w7.out hb8)
  have acc_w8 := hidP (acc_w7.out.trans (hb8.mono acc_w7.out.size))
  have sz_w8 : Hid (w7.heap.size ≤ w8.heap.size) := hidP hb8.size
  clear hb8 bk0_w7 bk1_w7 bk2_w7 bkF_w7 bkL_w7 at0_w7 at1_w7 at2_w7 atF_w7 atL_w7 rs0_w7 rs1_w7 rs2_w7 rsF_w7 rsL_w7 ou0_w7 ou1_w7 ou2_w7 ouF_w7 ouL_w7 oL_w7 acc_w7
  rw [HFI.out]
  have nA0 : ¬ (w4.heap.size = w.heap.size) := (by have := as_W1.out; have := sz_W1.out; have := as_W2.out; have := sz_W2.out; have := as_W3.out; have := sz_W3.out; have := sz_w4.out; have := as_W5.out; have := sz_W5.out; have := sz_w6.out; have := sz_w7.out; have := sz_w8.out; omega)
  have nB0 : ¬ (w.heap.size = w4.heap.size) := (by have := as_W1.out; have := sz_W1.out; have := as_W2.out; have := sz_W2.out; have := as_W3.out; have := sz_W3.out; have := sz_w4.out; have := as_W5.out; have := sz_W5.out; have := sz_w6.out; have := sz_w7.out; have := sz_w8.out; omega)
  have nA1 : ¬ (w4.heap.size = w.heap.size + 1) := (by have := as_W1.out; have := sz_W1.out; have := as_W2.out; have := sz_W2.out; have := as_W3.out; have := sz_W3.out; have := sz_w4.out; have := as_W5.out; have := sz_W5.out; have := sz_w6.out; have := sz_w7.out; have := sz_w8.out; omega)
  have nB1 : ¬ (w.heap.size + 1 = w4.heap.size) := (by have := as_W1.out; have := sz_W1.out; have := as_W2.out; have := sz_W2.out; have := as_W3.out; have := sz_W3.out; have := sz_w4.out; have := as_W5.out; have := sz_W5.out; have := sz_w6.out; have := sz_w7.out; have := sz_w8.out; omega)
  have nA2 : ¬ (w4.heap.size = w.heap.size + 1 + 1) := (by have := as_W1.out; have := sz_W1.out; have := as_W2.out; have := sz_W2.out; have := as_W3.out; have := sz_W3.out; have := sz_w4.out; have := as_W5.out; have := sz_W5.out; have := sz_w6.out; have := sz_w7.out; have := sz_w8.out; omega)
  have nB2 : ¬ (w.heap.size + 1 + 1 = w4.heap.size) := (by have := as_W1.out; have := sz_W1.out; have := as_W2.out; have := sz_W2.out; have := as_W3.out; have := sz_W3.out; have := sz_w4.out; have := as_W5.out; have := sz_W5.out; have := sz_w6.out; have := sz_w7.out; have := sz_w8.out; omega)
  go_wp2_with (at_builtin; refine stp ?_)
  unfold Stp
  have ou0_W9 : (w8.setCell ⟨w4.heap.size, 1, none⟩ (.int .i64 (T + 1))).cell? ⟨w4.heap.size, 0, none⟩ = some (.slice a3 n c3) := by simp [go_sem, ou0_w8]
  have ou1_W9 : (w8.setCell ⟨w4.heap.size, 1, none⟩ (.int .i64 (T + 1))).cell? ⟨w4.heap.size, 1, none⟩ = some (.int .i64 (T + 1)) := by simp [go_sem, ou1_w8]
  have ou2_W9 : (w8.setCell ⟨w4.heap.size, 1, none⟩ (.int .i64 (T + 1))).cell? ⟨w4.heap.size, 2, none⟩ = some (.int .i64 N) := by simp [go_sem, ou2_w8]
  have bk0_W9 : (w8.setCell ⟨w4.heap.size, 1, none⟩ (.int .i64 (T + 1))).cell? ⟨w.heap.size, 0, none⟩ = some (.slice a n c) := cell_set1 (bk0_w8) (by have := as_W1.out; have := sz_W1.out; have := as_W2.out; have := sz_W2.out; have := as_W3.out; have := sz_W3.out; have := sz_w4.out; have := as_W5.out; have := sz_W5.out; have := sz_w6.out; have := sz_w7.out; have := sz_w8.out; omega)
  have bk1_W9 : (w8.setCell ⟨w4.heap.size, 1, none⟩ (.int .i64 (T + 1))).cell? ⟨w.heap.size, 1, none⟩ = some (.int .i64 T) := cell_set1 (bk1_w8) (by have := as_W1.out; have := sz_W1.out; have := as_W2.out; have := sz_W2.out; have := as_W3.out; have := sz_W3.out; have := sz_w4.out; have := as_W5.out; have := sz_W5.out; have := sz_w6.out; have := sz_w7.out; have := sz_w8.out; omega)
  have bk2_W9 : (w8.setCell ⟨w4.heap.size, 1, none⟩ (.int .i64 (T + 1))).cell? ⟨w.heap.size, 2, none⟩ = some (.int .i64 N) := cell_set1 (bk2_w8) (by have := as_W1.out; have := sz_W1.out; have := as_W2.out; have := sz_W2.out; have := as_W3.out; have := sz_W3.out; have := sz_w4.out; have := as_W5.out; have := sz_W5.out; have := sz_w6.out; have := sz_w7.out; have := sz_w8.out; omega)
  have bkF_W9 : ∀ o, (w8.setCell ⟨w4.heap.size, 1, none⟩ (.int .i64 (T + 1))).frozen? ⟨w.heap.size, o, none⟩ = false := fun o => frz_set1 ((bkF_w8 o))
  have bkL_W9 : w.heap.size < (w8.setCell ⟨w4.heap.size, 1, none⟩ (.int .i64 (T + 1))).heap.size := by simpa using bkL_w8
  have at0_W9 : (w8.setCell ⟨w4.heap.size, 1, none⟩ (.int .i64 (T + 1))).cell? ⟨w.heap.size + 1, 0, none⟩ = some (.bool ad.s) := cell_set1 (at0_w8) (by have := as_W1.out; have := sz_W1.out; have := as_W2.out; have := sz_W2.out; have := as_W3.out; have := sz_W3.out; have := sz_w4.out; have := as_W5.out; have := sz_W5.out; have := sz_w6.out; have := sz_w7.out; have := sz_w8.out; omega)
  have at1_W9 : (w8.setCell ⟨w4.heap.size, 1, none⟩ (.int .i64 (T + 1))).cell? ⟨w.heap.size + 1, 1, none⟩ = some (.int .i64 ad.H.toInt) := cell_set1 (at1_w8) (by have := as_W1.out; have := sz_W1.out; have := as_W2.out; have := sz_W2.out; have := as_W3.out; have := sz_W3.out; have := sz_w4.out; have := as_W5.out; have := sz_W5.out; have := sz_w6.out; have := sz_w7.out; have := sz_w8.out; omega)
  have at2_W9 : (w8.setCell ⟨w4.heap.size, 1, none⟩ (.int .i64 (T + 1))).cell? ⟨w.heap.size + 1, 2, none⟩ = some (.int .i64 ad.L.toInt) := cell_set1 (at2_w8) (by have := as_W1.out; have := sz_W1.out; have := as_W2.out; have := sz_W2.out; have := as_W3.out; have := sz_W3.out; have := sz_w4.out; have := as_W5.out; have := sz_W5.out; have := sz_w6.out; have := sz_w7.out; have := sz_w8.out; omega)
  have atF_W9 : ∀ o, (w8.setCell ⟨w4.heap.size, 1, none⟩ (.int .i64 (T + 1))).frozen? ⟨w.heap.size + 1, o, none⟩ = false := fun o => frz_set1 ((atF_w8 o))
  have atL_W9 : w.heap.size + 1 < (w8.setCell ⟨w4.heap.size, 1, none⟩ (.int .i64 (T + 1))).heap.size := by simpa using atL_w8
  have rs0_W9 : (w8.setCell ⟨w4.heap.size, 1, none⟩ (.int .i64 (T + 1))).cell? ⟨w.heap.size + 1 + 1, 0, none⟩ = some (.slice none 0 0) := cell_set1 (rs0_w8) (by have := as_W1.out; have := sz_W1.out; have := as_W2.out; have := sz_W2.out; have := as_W3.out; have := sz_W3.out; have := sz_w4.out; have := as_W5.out; have := sz_W5.out; have := sz_w6.out; have := sz_w7.out; have := sz_w8.out; omega)
  have rs1_W9 : (w8.setCell ⟨w4.heap.size, 1, none⟩ (.int .i64 (T + 1))).cell? ⟨w.heap.size + 1 + 1, 1, none⟩ = some (.int .i64 0) := cell_set1 (rs1_w8) (by have := as_W1.out; have := sz_W1.out; have := as_W2.out; have := sz_W2.out; have := as_W3.out; have := sz_W3.out; have := sz_w4.out; have := as_W5.out; have := sz_W5.out; have := sz_w6.out; have := sz_w7.out; have := sz_w8.out; omega)
  have rs2_W9 : (w8.setCell ⟨w4.heap.size, 1, none⟩ (.int .i64 (T + 1))).cell? ⟨w.heap.size + 1 + 1, 2, none⟩ = some (.int .i64 0) := cell_set1 (rs2_w8) (by have := as_W1.out; have := sz_W1.out; have := as_W2.out; have := sz_W2.out; have := as_W3.out; have := sz_W3.out; have := sz_w4.out; have := as_W5.out; have := sz_W5.out; have := sz_w6.out; have := sz_w7.out; have := sz_w8.out; omega)
  have rsF_W9 : ∀ o, (w8.setCell ⟨w4.heap.size, 1, none⟩ (.int .i64 (T + 1))).frozen? ⟨w.heap.size + 1 + 1, o, none⟩ = false := fun o => frz_set1 ((rsF_w8 o))
  have rsL_W9 : w.heap.size + 1 + 1 < (w8.setCell ⟨w4.heap.size, 1, none⟩ (.int .i64 (T + 1))).heap.size := by simpa using rsL_w8
  have ouF_W9 : ∀ o, (w8.setCell ⟨w4.heap.size, 1, none⟩ (.int .i64 (T + 1))).frozen? ⟨w4.heap.size, o, none⟩ = false := fun o => frz_set1 ((ouF_w8 o))
  have ouL_W9 : w4.heap.size < (w8.setCell ⟨w4.heap.size, 1, none⟩ (.int .i64 (T + 1))).heap.size := by simpa using ouL_w8
  have oL_W9 : Hid (OwnG KLs 35 (w8.setCell ⟨w4.heap.size, 1, none⟩ (.int .i64 (T + 1))) (W3.heap.size) (.slice a3 n c3) (ls)) := hidP (OwnG.grown (oL_w8.out) (grown_cellG _ _ _ _) (fun k hk e => by have h5 := lhL.out k hk; cases e; exact absurd h5.2 (Nat.lt_irrefl _)))
  have acc_W9 : Hid (Below w.heap.size w (w8.setCell ⟨w4.heap.size, 1, none⟩ (.int .i64 (T + 1)))) := hidP (Below.setCell (acc_w8.out) (by have := as_W1.out; have := sz_W1.out; have := as_W2.out; have := sz_W2.out; have := as_W3.out; have := sz_W3.out; have := sz_w4.out; have := as_W5.out; have := sz_W5.out; have := sz_w6.out; have := sz_w7.out; have := sz_w8.out; try dsimp only; omega) _)
  have sz_W9 : Hid ((w8.setCell ⟨w4.heap.size, 1, none⟩ (.int .i64 (T + 1))).heap.size = w8.heap.size) := hidP (by simp)
  generalize w8.setCell ⟨w4.heap.size, 1, none⟩ (.int .i64 (T + 1)) = W9 at *
  clear ou0_w8 ou1_w8 ou2_w8 bk0_w8 bk1_w8 bk2_w8 bkF_w8 bkL_w8 at0_w8 at1_w8 at2_w8 atF_w8 atL_w8 rs0_w8 rs1_w8 rs2_w8 rsF_w8 rsL_w8 ouF_w8 ouL_w8 oL_w8 acc_w8
  obtain ⟨nw0_W10, nw1_W10, nw2_W10, nw3_W10, nw4_W10, nw5_W10⟩ := box6B W9 35 (.bool ad.s) (.int .i64 ad.H.toInt) (.int .i64 ad.L.toInt) (.string own) (.int .i64 (T + 1)) (.int .i64 (N + span))
  have nwF_W10 : ∀ o, (W9.alloc (.cells #[.bool ad.s, .int .i64 ad.H.toInt, .int .i64 ad.L.toInt, .string own, .int .i64 (T + 1), .int .i64 (N + span)] 35)).frozen? ⟨W9.heap.size, o, none⟩ = false := fun o => by simp [go_sem]
  have nwL_W10 : W9.heap.size < (W9.alloc (.cells #[.bool ad.s, .int .i64 ad.H.toInt, .int .i64 ad.L.toInt, .string own, .int .i64 (T + 1), .int .i64 (N + span)] 35)).heap.size := by simp
  have ab_W10 := alloc_below W9 (.cells #[.bool ad.s, .int .i64 ad.H.toInt, .int .i64 ad.L.toInt, .string own, .int .i64 (T + 1), .int .i64 (N + span)] 35)
  have as_W10 : Hid ((W9.alloc (.cells #[.bool ad.s, .int .i64 ad.H.toInt, .int .i64 ad.L.toInt, .string own, .int .i64 (T + 1), .int .i64 (N + span)] 35)).heap.size = W9.heap.size + 1) := hidP (by simp)
  generalize W9.alloc (.cells #[.bool ad.s, .int .i64 ad.H.toInt, .int .i64 ad.L.toInt, .string own, .int .i64 (T + 1), .int .i64 (N + span)] 35) = W10 at *
  have bk0_W10 := (ab_W10.cell bkL_W9).trans bk0_W9
  have bk1_W10 := (ab_W10.cell bkL_W9).trans bk1_W9
  have bk2_W10 := (ab_W10.cell bkL_W9).trans bk2_W9
  have bkF_W10 : ∀ o, W10.frozen? ⟨w.heap.size, o, none⟩ = false := fun o => (ab_W10.frozen bkL_W9).trans (bkF_W9 o)
  have bkL_W10 : w.heap.size < W10.heap.size := Nat.lt_of_lt_of_le bkL_W9 ab_W10.size
  have at0_W10 := (ab_W10.cell atL_W9).trans at0_W9
  have at1_W10 := (ab_W10.cell atL_W9).trans at1_W9
  have at2_W10 := (ab_W10.cell atL_W9).trans at2_W9
  have atF_W10 : ∀ o, W10.frozen? ⟨w.heap.size + 1, o, none⟩ = false := fun o => (ab_W10.frozen atL_W9).trans (atF_W9 o)
  have atL_W10 : w.heap.size + 1 < W10.heap.size := Nat.lt_of_lt_of_le atL_W9 ab_W10.size
  have rs0_W10 := (ab_W10.cell rsL_W9).trans rs0_W9
  have rs1_W10 := (ab_W10.cell rsL_W9).trans rs1_W9
  have rs2_W10 := (ab_W10.cell rsL_W9).trans rs2_W9
  have rsF_W10 : ∀ o, W10.frozen? ⟨w.heap.size + 1 + 1, o, none⟩ = false := fun o => (ab_W10.frozen rsL_W9).trans (rsF_W9 o)
  have rsL_W10 : w.heap.size + 1 + 1 < W10.heap.size := Nat.lt_of_lt_of_le rsL_W9 ab_W10.size
  have ou0_W10 := (ab_W10.cell ouL_W9).trans ou0_W9
  have ou1_W10 := (ab_W10.cell ouL_W9).trans ou1_W9
  have ou2_W10 := (ab_W10.cell ouL_W9).trans ou2_W9
  have ouF_W10 : ∀ o, W10.frozen? ⟨w4.heap.size, o, none⟩ = false := fun o => (ab_W10.frozen ouL_W9).trans (ouF_W9 o)
  have ouL_W10 : w4.heap.size < W10.heap.size := Nat.lt_of_lt_of_le ouL_W9 ab_W10.size
  have oL_W10 := hidP (OwnG.later oL_W9.out ab_W10)
  have acc_W10 := hidP (acc_W9.out.trans (ab_W10.mono acc_W9.out.size))
  have sz_W10 : Hid (W9.heap.size ≤ W10.heap.size) := hidP ab_W10.size
  clear ab_W10 bk0_W9 bk1_W9 bk2_W9 bkF_W9 bkL_W9 at0_W9 at1_W9 at2_W9 atF_W9 atL_W9 rs0_W9 rs1_W9 rs2_W9 rsF_W9 rsL_W9 ou0_W9 ou1_W9 ou2_W9 ouF_W9 ouL_W9 oL_W9 acc_W9
  rw [sz_W9.out] at nw0_W10 nw1_W10 nw2_W10 nw3_W10 nw4_W10 nw5_W10 nwL_W10
  have nwF_W10' : ∀ o, W10.frozen? ⟨w8.heap.size, o, none⟩ = false := fun o => by have := nwF_W10 o; rw [sz_W9.out] at this; exact this
  clear nwF_W10
  have nwF_W10 := nwF_W10'
  clear nwF_W10'
  have hv11 : (W10.alloc (.cells #[.bool ad.s, .int .i64 ad.H.toInt, .int .i64 ad.L.toInt, .string own, .int .i64 (T + 1), .int .i64 (N + span)] 35)).heap[W10.heap.size]? = some (.cells (KLs.cs (⟨ad, own, T + 1, N + span⟩ : Ls)).toArray 35) := heap_alloc_new W10 _
  have ab_W11 := alloc_below W10 (.cells #[.bool ad.s, .int .i64 ad.H.toInt, .int .i64 ad.L.toInt, .string own, .int .i64 (T + 1), .int .i64 (N + span)] 35)
  have as_W11 : Hid ((W10.alloc (.cells #[.bool ad.s, .int .i64 ad.H.toInt, .int .i64 ad.L.toInt, .string own, .int .i64 (T + 1), .int .i64 (N + span)] 35)).heap.size = W10.heap.size + 1) := hidP (by simp)
  generalize W10.alloc (.cells #[.bool ad.s, .int .i64 ad.H.toInt, .int .i64 ad.L.toInt, .string own, .int .i64 (T + 1), .int .i64 (N + span)] 35) = W11 at *
  have bk0_W11 := (ab_W11.cell bkL_W10).trans bk0_W10
  have bk1_W11 := (ab_W11.cell bkL_W10).trans bk1_W10
  have bk2_W11 := (ab_W11.cell bkL_W10).trans bk2_W10
  have bkF_W11 : ∀ o, W11.frozen? ⟨w.heap.size, o, none⟩ = false := fun o => (ab_W11.frozen bkL_W10).trans (bkF_W10 o)
  have bkL_W11 : w.heap.size < W11.heap.size := Nat.lt_of_lt_of_le bkL_W10 ab_W11.size
  have at0_W11 := (ab_W11.cell atL_W10).trans at0_W10
  have at1_W11 := (ab_W11.cell atL_W10).trans at1_W10
  have at2_W11 := (ab_W11.cell atL_W10).trans at2_W10
  have atF_W11 : ∀ o, W11.frozen? ⟨w.heap.size + 1, o, none⟩ = false := fun o => (ab_W11.frozen atL_W10).trans (atF_W10 o)
  have atL_W11 : w.heap.size + 1 < W11.heap.size := Nat.lt_of_lt_of_le atL_W10 ab_W11.size
  have rs0_W11 := (ab_W11.cell rsL_W10).trans rs0_W10
  have rs1_W11 := (ab_W11.cell rsL_W10).trans rs1_W10
  have rs2_W11 := (ab_W11.cell rsL_W10).trans rs2_W10
  have rsF_W11 : ∀ o, W11.frozen? ⟨w.heap.size + 1 + 1, o, none⟩ = false := fun o => (ab_W11.frozen rsL_W10).trans (rsF_W10 o)
  have rsL_W11 : w.heap.size + 1 + 1 < W11.heap.size := Nat.lt_of_lt_of_le rsL_W10 ab_W11.size
  have ou0_W11 := (ab_W11.cell ouL_W10).trans ou0_W10
  have ou1_W11 := (ab_W11.cell ouL_W10).trans ou1_W10
  have ou2_W11 := (ab_W11.cell ouL_W10).trans ou2_W10
  have ouF_W11 : ∀ o, W11.frozen? ⟨w4.heap.size, o, none⟩ = false := fun o => (ab_W11.frozen ouL_W10).trans (ouF_W10 o)
  have ouL_W11 : w4.heap.size < W11.heap.size := Nat.lt_of_lt_of_le ouL_W10 ab_W11.size
  have nw0_W11 := (ab_W11.cell nwL_W10).trans nw0_W10
  have nw1_W11 := (ab_W11.cell nwL_W10).trans nw1_W10
  have nw2_W11 := (ab_W11.cell nwL_W10).trans nw2_W10
  have nw3_W11 := (ab_W11.cell nwL_W10).trans nw3_W10
  have nw4_W11 := (ab_W11.cell nwL_W10).trans nw4_W10
  have nw5_W11 := (ab_W11.cell nwL_W10).trans nw5_W10
  have nwF_W11 : ∀ o, W11.frozen? ⟨w8.heap.size, o, none⟩ = false := fun o => (ab_W11.frozen nwL_W10).trans (nwF_W10 o)
  have nwL_W11 : w8.heap.size < W11.heap.size := Nat.lt_of_lt_of_le nwL_W10 ab_W11.size
  have oL_W11 := hidP (OwnG.later oL_W10.out ab_W11)
  have acc_W11 := hidP (acc_W10.out.trans (ab_W11.mono acc_W10.out.size))
  have sz_W11 : Hid (W10.heap.size ≤ W11.heap.size) := hidP ab_W11.size
  clear ab_W11 bk0_W10 bk1_W10 bk2_W10 bkF_W10 bkL_W10 at0_W10 at1_W10 at2_W10 atF_W10 atL_W10 rs0_W10 rs1_W10 rs2_W10 rsF_W10 rsL_W10 ou0_W10 ou1_W10 ou2_W10 ouF_W10 ouL_W10 nw0_W10 nw1_W10 nw2_W10 nw3_W10 nw4_W10 nw5_W10 nwF_W10 nwL_W10 oL_W10 acc_W10
  rw [as_W10.out, sz_W9.out] at hv11
  have hsrc := hidP (src_rowG Tryz.tyLs.1 (K := KLs) 1 1 (by show 0 < 6; omega) rfl (row_blk hv11) (fun h => by cases h))
  clear hv11
  refine wpList_appG Tryz.tyLs _ rfl (.tmp 77) (.tmp 79) 24 rfl W3.heap.size a3 n c3 1 ls [(⟨ad, own, T + 1, N + span⟩ : Ls)] _ rfl HN.out rfl oL_W11.out rfl hsrc.out (by omega) (by have := as_W1.out; have := sz_W1.out; have := as_W2.out; have := sz_W2.out; have := as_W3.out; have := sz_W3.out; have := sz_w4.out; have := as_W5.out; have := sz_W5.out; have := sz_w6.out; have := sz_w7.out; have := sz_w8.out; have := sz_W9.out; have := as_W10.out; have := sz_W10.out; have := as_W11.out; have := sz_W11.out; omega) ?_
  intro a12 c12 w12 ho12 hg12 ht12
  have nebk : ∀ k, (Value.slice a3 n c3).ownBlock = some k → k ≠ w.heap.size := fun k hk => by have h5 := lhL.out k hk; have := as_W1.out; have := sz_W1.out; have := as_W2.out; have := sz_W2.out; have := as_W3.out; have := sz_W3.out; have := sz_w4.out; have := as_W5.out; have := sz_W5.out; have := sz_w6.out; have := sz_w7.out; have := sz_w8.out; have := sz_W9.out; have := as_W10.out; have := sz_W10.out; have := as_W11.out; have := sz_W11.out; omega
  have bk0_w12 := cell_grown hg12 bk0_W11 nebk
  have bk1_w12 := cell_grown hg12 bk1_W11 nebk
  have bk2_w12 := cell_grown hg12 bk2_W11 nebk
  have bkF_w12 : ∀ o, w12.frozen? ⟨w.heap.size, o, none⟩ = false := fun o => frz_grownZ hg12 bkL_W11 (bkF_W11 o) nebk
  have bkL_w12 : w.heap.size < w12.heap.size := Nat.lt_of_lt_of_le bkL_W11 hg12.size
  have neat : ∀ k, (Value.slice a3 n c3).ownBlock = some k → k ≠ w.heap.size + 1 := fun k hk => by have h5 := lhL.out k hk; have := as_W1.out; have := sz_W1.out; have := as_W2.out; have := sz_W2.out; have := as_W3.out; have := sz_W3.out; have := sz_w4.out; have := as_W5.out; have := sz_W5.out; have := sz_w6.out; have := sz_w7.out; have := sz_w8.out; have := sz_W9.out; have := as_W10.out; have := sz_W10.out; have := as_W11.out; have := sz_W11.out; omega
  have at0_w12 := cell_grown hg12 at0_W11 neat
  have at1_w12 := cell_grown hg12 at1_W11 neat
  have at2_w12 := cell_grown hg12 at2_W11 neat
  have atF_w12 : ∀ o, w12.frozen? ⟨w.heap.size + 1, o, none⟩ = false := fun o => frz_grownZ hg12 atL_W11 (atF_W11 o) neat
  have atL_w12 : w.heap.size + 1 < w12.heap.size := Nat.lt_of_lt_of_le atL_W11 hg12.size
  have ners : ∀ k, (Value.slice a3 n c3).ownBlock = some k → k ≠ w.heap.size + 1 + 1 := fun k hk => by have h5 := lhL.out k hk; have := as_W1.out; have := sz_W1.out; have := as_W2.out; have := sz_W2.out; have := as_W3.out; have := sz_W3.out; have := sz_w4.out; have := as_W5.out; have := sz_W5.out; have := sz_w6.out; have := sz_w7.out; have := sz_w8.out; have := sz_W9.out; have := as_W10.out; have := sz_W10.out; have := as_W11.out; have := sz_W11.out; omega
  have rs0_w12 := cell_grown hg12 rs0_W11 ners
  have rs1_w12 := cell_grown hg12 rs1_W11 ners
  have rs2_w12 := cell_grown hg12 rs2_W11 ners
  have rsF_w12 : ∀ o, w12.frozen? ⟨w.heap.size + 1 + 1, o, none⟩ = false := fun o => frz_grownZ hg12 rsL_W11 (rsF_W11 o) ners
  have rsL_w12 : w.heap.size + 1 + 1 < w12.heap.size := Nat.lt_of_lt_of_le rsL_W11 hg12.size
  have neou : ∀ k, (Value.slice a3 n c3).ownBlock = some k → k ≠ w4.heap.size := fun k hk => by have h5 := lhL.out k hk; have := as_W1.out; have := sz_W1.out; have := as_W2.out; have := sz_W2.out; have := as_W3.out; have := sz_W3.out; have := sz_w4.out; have := as_W5.out; have := sz_W5.out; have := sz_w6.out; have := sz_w7.out; have := sz_w8.out; have := sz_W9.out; have := as_W10.out; have := sz_W10.out; have := as_W11.out; have := sz_W11.out; omega
  have ou0_w12 := cell_grown hg12 ou0_W11 neou
  have ou1_w12 := cell_grown hg12 ou1_W11 neou
  have ou2_w12 := cell_grown hg12 ou2_W11 neou
  have ouF_w12 : ∀ o, w12.frozen? ⟨w4.heap.size, o, none⟩ = false := fun o => frz_grownZ hg12 ouL_W11 (ouF_W11 o) neou
  have ouL_w12 : w4.heap.size < w12.heap.size := Nat.lt_of_lt_of_le ouL_W11 hg12.size
  have nenw : ∀ k, (Value.slice a3 n c3).ownBlock = some k → k ≠ w8.heap.size := fun k hk => by have h5 := lhL.out k hk; have := as_W1.out; have := sz_W1.out; have := as_W2.out; have := sz_W2.out; have := as_W3.out; have := sz_W3.out; have := sz_w4.out; have := as_W5.out; have := sz_W5.out; have := sz_w6.out; have := sz_w7.out; have := sz_w8.out; have := sz_W9.out; have := as_W10.out; have := sz_W10.out; have := as_W11.out; have := sz_W11.out; omega
  have nw0_w12 := cell_grown hg12 nw0_W11 nenw
  have nw1_w12 := cell_grown hg12 nw1_W11 nenw
  have nw2_w12 := cell_grown hg12 nw2_W11 nenw
  have nw3_w12 := cell_grown hg12 nw3_W11 nenw
  have nw4_w12 := cell_grown hg12 nw4_W11 nenw
  have nw5_w12 := cell_grown hg12 nw5_W11 nenw
  have nwF_w12 : ∀ o, w12.frozen? ⟨w8.heap.size, o, none⟩ = false := fun o => frz_grownZ hg12 nwL_W11 (nwF_W11 o) nenw
  have nwL_w12 : w8.heap.size < w12.heap.size := Nat.lt_of_lt_of_le nwL_W11 hg12.size
  have oL_w12 := hidP (ho12)
  have acc_w12 := hidP (Below.grown acc_W11.out hg12 acc_W11.out.size (fun k hk => by have h5 := lhL.out k hk; have := as_W1.out; have := sz_W1.out; have := as_W2.out; have := sz_W2.out; have := as_W3.out; have := sz_W3.out; have := sz_w4.out; have := as_W5.out; have := sz_W5.out; have := sz_w6.out; have := sz_w7.out; have := sz_w8.out; have := sz_W9.out; have := as_W10.out; have := sz_W10.out; have := as_W11.out; have := sz_W11.out; omega))
  have sz_w12 : Hid (W11.heap.size ≤ w12.heap.size) := hidP hg12.size
  clear hg12 bk0_W11 bk1_W11 bk2_W11 bkF_W11 bkL_W11 nebk at0_W11 at1_W11 at2_W11 atF_W11 atL_W11 neat rs0_W11 rs1_W11 rs2_W11 rsF_W11 rsL_W11 ners ou0_W11 ou1_W11 ou2_W11 ouF_W11 ouL_W11 neou nw0_W11 nw1_W11 nw2_W11 nw3_W11 nw4_W11 nw5_W11 nwF_W11 nwL_W11 nenw oL_W11 acc_W11
  clear ho12
  obtain ⟨gg, rfl⟩ := own_some oL_w12.out (by omega)
  have HGb : Hid ((W3.heap.size ≤ gg ∧ gg < w4.heap.size) ∨ gg = W11.heap.size) := hidP (by
    rcases ht12 with h | h
    · exact Or.inl (lhL.out gg (by rw [← h]; rfl))
    · simp at h; exact Or.inr h)
  clear ht12 lhL
  go_wp2_with fail
  have NEbk : Hid (∀ k, (Value.slice (some ⟨gg, 0, none⟩) (n + 1) c12).ownBlock = some k → k ≠ w.heap.size) := hidP (fun k hk => by have e : gg = k := Option.some.inj (show some gg = some k from hk); rcases HGb.out with h | h <;> (have := as_W1.out; have := sz_W1.out; have := as_W2.out; have := sz_W2.out; have := as_W3.out; have := sz_W3.out; have := sz_w4.out; have := as_W5.out; have := sz_W5.out; have := sz_w6.out; have := sz_w7.out; have := sz_w8.out; have := sz_W9.out; have := as_W10.out; have := sz_W10.out; have := as_W11.out; have := sz_W11.out; have := sz_w12.out; omega))
  have NEat : Hid (∀ k, (Value.slice (some ⟨gg, 0, none⟩) (n + 1) c12).ownBlock = some k → k ≠ w.heap.size + 1) := hidP (fun k hk => by have e : gg = k := Option.some.inj (show some gg = some k from hk); rcases HGb.out with h | h <;> (have := as_W1.out; have := sz_W1.out; have := as_W2.out; have := sz_W2.out; have := as_W3.out; have := sz_W3.out; have := sz_w4.out; have := as_W5.out; have := sz_W5.out; have := sz_w6.out; have := sz_w7.out; have := sz_w8.out; have := sz_W9.out; have := as_W10.out; have := sz_W10.out; have := as_W11.out; have := sz_W11.out; have := sz_w12.out; omega))
  have NErs : Hid (∀ k, (Value.slice (some ⟨gg, 0, none⟩) (n + 1) c12).ownBlock = some k → k ≠ w.heap.size + 1 + 1) := hidP (fun k hk => by have e : gg = k := Option.some.inj (show some gg = some k from hk); rcases HGb.out with h | h <;> (have := as_W1.out; have := sz_W1.out; have := as_W2.out; have := sz_W2.out; have := as_W3.out; have := sz_W3.out; have := sz_w4.out; have := as_W5.out; have := sz_W5.out; have := sz_w6.out; have := sz_w7.out; have := sz_w8.out; have := sz_W9.out; have := as_W10.out; have := sz_W10.out; have := as_W11.out; have := sz_W11.out; have := sz_w12.out; omega))
  have NEou : Hid (∀ k, (Value.slice (some ⟨gg, 0, none⟩) (n + 1) c12).ownBlock = some k → k ≠ w4.heap.size) := hidP (fun k hk => by have e : gg = k := Option.some.inj (show some gg = some k from hk); rcases HGb.out with h | h <;> (have := as_W1.out; have := sz_W1.out; have := as_W2.out; have := sz_W2.out; have := as_W3.out; have := sz_W3.out; have := sz_w4.out; have := as_W5.out; have := sz_W5.out; have := sz_w6.out; have := sz_w7.out; have := sz_w8.out; have := sz_W9.out; have := as_W10.out; have := sz_W10.out; have := as_W11.out; have := sz_W11.out; have := sz_w12.out; omega))
  have NEnw : Hid (∀ k, (Value.slice (some ⟨gg, 0, none⟩) (n + 1) c12).ownBlock = some k → k ≠ w8.heap.size) := hidP (fun k hk => by have e : gg = k := Option.some.inj (show some gg = some k from hk); rcases HGb.out with h | h <;> (have := as_W1.out; have := sz_W1.out; have := as_W2.out; have := sz_W2.out; have := as_W3.out; have := sz_W3.out; have := sz_w4.out; have := as_W5.out; have := sz_W5.out; have := sz_w6.out; have := sz_w7.out; have := sz_w8.out; have := sz_W9.out; have := as_W10.out; have := sz_W10.out; have := as_W11.out; have := sz_W11.out; have := sz_w12.out; omega))
  have lhL : Hid (∀ k, (Value.slice (some ⟨gg, 0, none⟩) (n + 1) c12).ownBlock = some k → W3.heap.size ≤ k) := hidP (fun k hk => by have e : gg = k := Option.some.inj (show some gg = some k from hk); rcases HGb.out with h | h <;> (have := as_W1.out; have := sz_W1.out; have := as_W2.out; have := sz_W2.out; have := as_W3.out; have := sz_W3.out; have := sz_w4.out; have := as_W5.out; have := sz_W5.out; have := sz_w6.out; have := sz_w7.out; have := sz_w8.out; have := sz_W9.out; have := as_W10.out; have := sz_W10.out; have := as_W11.out; have := sz_W11.out; have := sz_w12.out; omega))
  have ou0_V : (w12.setCell ⟨w4.heap.size, 0, none⟩ (.slice (some ⟨gg, 0, none⟩) (n + 1) c12)).cell? ⟨w4.heap.size, 0, none⟩ = some (.slice (some ⟨gg, 0, none⟩) (n + 1) c12) := by simp [go_sem, ou0_w12]
  have ou1_V : (w12.setCell ⟨w4.heap.size, 0, none⟩ (.slice (some ⟨gg, 0, none⟩) (n + 1) c12)).cell? ⟨w4.heap.size, 1, none⟩ = some (.int .i64 (T + 1)) := by simp [go_sem, ou1_w12]
  have ou2_V : (w12.setCell ⟨w4.heap.size, 0, none⟩ (.slice (some ⟨gg, 0, none⟩) (n + 1) c12)).cell? ⟨w4.heap.size, 2, none⟩ = some (.int .i64 N) := by simp [go_sem, ou2_w12]
  have bk0_V : (w12.setCell ⟨w4.heap.size, 0, none⟩ (.slice (some ⟨gg, 0, none⟩) (n + 1) c12)).cell? ⟨w.heap.size, 0, none⟩ = some (.slice a n c) := cell_set1 (bk0_w12) (by have := as_W1.out; have := sz_W1.out; have := as_W2.out; have := sz_W2.out; have := as_W3.out; have := sz_W3.out; have := sz_w4.out; have := as_W5.out; have := sz_W5.out; have := sz_w6.out; have := sz_w7.out; have := sz_w8.out; have := sz_W9.out; have := as_W10.out; have := sz_W10.out; have := as_W11.out; have := sz_W11.out; have := sz_w12.out; omega)
  have bk1_V : (w12.setCell ⟨w4.heap.size, 0, none⟩ (.slice (some ⟨gg, 0, none⟩) (n + 1) c12)).cell? ⟨w.heap.size, 1, none⟩ = some (.int .i64 T) := cell_set1 (bk1_w12) (by have := as_W1.out; have := sz_W1.out; have := as_W2.out; have := sz_W2.out; have := as_W3.out; have := sz_W3.out; have := sz_w4.out; have := as_W5.out; have := sz_W5.out; have := sz_w6.out; have := sz_w7.out; have := sz_w8.out; have := sz_W9.out; have := as_W10.out; have := sz_W10.out; have := as_W11.out; have := sz_W11.out; have := sz_w12.out; omega)
  have bk2_V : (w12.setCell ⟨w4.heap.size, 0, none⟩ (.slice (some ⟨gg, 0, none⟩) (n + 1) c12)).cell? ⟨w.heap.size, 2, none⟩ = some (.int .i64 N) := cell_set1 (bk2_w12) (by have := as_W1.out; have := sz_W1.out; have := as_W2.out; have := sz_W2.out; have := as_W3.out; have := sz_W3.out; have := sz_w4.out; have := as_W5.out; have := sz_W5.out; have := sz_w6.out; have := sz_w7.out; have := sz_w8.out; have := sz_W9.out; have := as_W10.out; have := sz_W10.out; have := as_W11.out; have := sz_W11.out; have := sz_w12.out; omega)
  have bkF_V : ∀ o, (w12.setCell ⟨w4.heap.size, 0, none⟩ (.slice (some ⟨gg, 0, none⟩) (n + 1) c12)).frozen? ⟨w.heap.size, o, none⟩ = false := fun o => frz_set1 ((bkF_w12 o))
  have bkL_V : w.heap.size < (w12.setCell ⟨w4.heap.size, 0, none⟩ (.slice (some ⟨gg, 0, none⟩) (n + 1) c12)).heap.size := by simpa using bkL_w12
  have at0_V : (w12.setCell ⟨w4.heap.size, 0, none⟩ (.slice (some ⟨gg, 0, none⟩) (n + 1) c12)).cell? ⟨w.heap.size + 1, 0, none⟩ = some (.bool ad.s) := cell_set1 (at0_w12) (by have := as_W1.out; have := sz_W1.out; have := as_W2.out; have := sz_W2.out; have := as_W3.out; have := sz_W3.out; have := sz_w4.out; have := as_W5.out; have := sz_W5.out; have := sz_w6.out; have := sz_w7.out; have := sz_w8.out; have := sz_W9.out; have := as_W10.out; have := sz_W10.out; have := as_W11.out; have := sz_W11.out; have := sz_w12.out; omega)
  have at1_V : (w12.setCell ⟨w4.heap.size, 0, none⟩ (.slice (some ⟨gg, 0, none⟩) (n + 1) c12)).cell? ⟨w.heap.size + 1, 1, none⟩ = some (.int .i64 ad.H.toInt) := cell_set1 (at1_w12) (by have := as_W1.out; have := sz_W1.out; have := as_W2.out; have := sz_W2.out; have := as_W3.out; have := sz_W3.out; have := sz_w4.out; have := as_W5.out; have := sz_W5.out; have := sz_w6.out; have := sz_w7.out; have := sz_w8.out; have := sz_W9.out; have := as_W10.out; have := sz_W10.out; have := as_W11.out; have := sz_W11.out; have := sz_w12.out; omega)
  have at2_V : (w12.setCell ⟨w4.heap.size, 0, none⟩ (.slice (some ⟨gg, 0, none⟩) (n + 1) c12)).cell? ⟨w.heap.size + 1, 2, none⟩ = some (.int .i64 ad.L.toInt) := cell_set1 (at2_w12) (by have := as_W1.out; have := sz_W1.out; have := as_W2.out; have := sz_W2.out; have := as_W3.out; have := sz_W3.out; have := sz_w4.out; have := as_W5.out; have := sz_W5.out; have := sz_w6.out; have := sz_w7.out; have := sz_w8.out; have := sz_W9.out; have := as_W10.out; have := sz_W10.out; have := as_W11.out; have := sz_W11.out; have := sz_w12.out; omega)
  have atF_V : ∀ o, (w12.setCell ⟨w4.heap.size, 0, none⟩ (.slice (some ⟨gg, 0, none⟩) (n + 1) c12)).frozen? ⟨w.heap.size + 1, o, none⟩ = false := fun o => frz_set1 ((atF_w12 o))
  have atL_V : w.heap.size + 1 < (w12.setCell ⟨w4.heap.size, 0, none⟩ (.slice (some ⟨gg, 0, none⟩) (n + 1) c12)).heap.size := by simpa using atL_w12
  have rs0_V : (w12.setCell ⟨w4.heap.size, 0, none⟩ (.slice (some ⟨gg, 0, none⟩) (n + 1) c12)).cell? ⟨w.heap.size + 1 + 1, 0, none⟩ = some (.slice none 0 0) := cell_set1 (rs0_w12) (by have := as_W1.out; have := sz_W1.out; have := as_W2.out; have := sz_W2.out; have := as_W3.out; have := sz_W3.out; have := sz_w4.out; have := as_W5.out; have := sz_W5.out; have := sz_w6.out; have := sz_w7.out; have := sz_w8.out; have := sz_W9.out; have := as_W10.out; have := sz_W10.out; have := as_W11.out; have := sz_W11.out; have := sz_w12.out; omega)
  have rs1_V : (w12.setCell ⟨w4.heap.size, 0, none⟩ (.slice (some ⟨gg, 0, none⟩) (n + 1) c12)).cell? ⟨w.heap.size + 1 + 1, 1, none⟩ = some (.int .i64 0) := cell_set1 (rs1_w12) (by have := as_W1.out; have := sz_W1.out; have := as_W2.out; have := sz_W2.out; have := as_W3.out; have := sz_W3.out; have := sz_w4.out; have := as_W5.out; have := sz_W5.out; have := sz_w6.out; have := sz_w7.out; have := sz_w8.out; have := sz_W9.out; have := as_W10.out; have := sz_W10.out; have := as_W11.out; have := sz_W11.out; have := sz_w12.out; omega)
  have rs2_V : (w12.setCell ⟨w4.heap.size, 0, none⟩ (.slice (some ⟨gg, 0, none⟩) (n + 1) c12)).cell? ⟨w.heap.size + 1 + 1, 2, none⟩ = some (.int .i64 0) := cell_set1 (rs2_w12) (by have := as_W1.out; have := sz_W1.out; have := as_W2.out; have := sz_W2.out; have := as_W3.out; have := sz_W3.out; have := sz_w4.out; have := as_W5.out; have := sz_W5.out; have := sz_w6.out; have := sz_w7.out; have := sz_w8.out; have := sz_W9.out; have := as_W10.out; have := sz_W10.out; have := as_W11.out; have := sz_W11.out; have := sz_w12.out; omega)
  have rsF_V : ∀ o, (w12.setCell ⟨w4.heap.size, 0, none⟩ (.slice (some ⟨gg, 0, none⟩) (n + 1) c12)).frozen? ⟨w.heap.size + 1 + 1, o, none⟩ = false := fun o => frz_set1 ((rsF_w12 o))
  have rsL_V : w.heap.size + 1 + 1 < (w12.setCell ⟨w4.heap.size, 0, none⟩ (.slice (some ⟨gg, 0, none⟩) (n + 1) c12)).heap.size := by simpa using rsL_w12
  have ouF_V : ∀ o, (w12.setCell ⟨w4.heap.size, 0, none⟩ (.slice (some ⟨gg, 0, none⟩) (n + 1) c12)).frozen? ⟨w4.heap.size, o, none⟩ = false := fun o => frz_set1 ((ouF_w12 o))
  have ouL_V : w4.heap.size < (w12.setCell ⟨w4.heap.size, 0, none⟩ (.slice (some ⟨gg, 0, none⟩) (n + 1) c12)).heap.size := by simpa using ouL_w12
  have nw0_V : (w12.setCell ⟨w4.heap.size, 0, none⟩ (.slice (some ⟨gg, 0, none⟩) (n + 1) c12)).cell? ⟨w8.heap.size, 0, none⟩ = some (.bool ad.s) := cell_set1 (nw0_w12) (by have := as_W1.out; have := sz_W1.out; have := as_W2.out; have := sz_W2.out; have := as_W3.out; have := sz_W3.out; have := sz_w4.out; have := as_W5.out; have := sz_W5.out; have := sz_w6.out; have := sz_w7.out; have := sz_w8.out; have := sz_W9.out; have := as_W10.out; have := sz_W10.out; have := as_W11.out; have := sz_W11.out; have := sz_w12.out; omega)
  have nw1_V : (w12.setCell ⟨w4.heap.size, 0, none⟩ (.slice (some ⟨gg, 0, none⟩) (n + 1) c12)).cell? ⟨w8.heap.size, 1, none⟩ = some (.int .i64 ad.H.toInt) := cell_set1 (nw1_w12) (by have := as_W1.out; have := sz_W1.out; have := as_W2.out; have := sz_W2.out; have := as_W3.out; have := sz_W3.out; have := sz_w4.out; have := as_W5.out; have := sz_W5.out; have := sz_w6.out; have := sz_w7.out; have := sz_w8.out; have := sz_W9.out; have := as_W10.out; have := sz_W10.out; have := as_W11.out; have := sz_W11.out; have := sz_w12.out; omega)
  have nw2_V : (w12.setCell ⟨w4.heap.size, 0, none⟩ (.slice (some ⟨gg, 0, none⟩) (n + 1) c12)).cell? ⟨w8.heap.size, 2, none⟩ = some (.int .i64 ad.L.toInt) := cell_set1 (nw2_w12) (by have := as_W1.out; have := sz_W1.out; have := as_W2.out; have := sz_W2.out; have := as_W3.out; have := sz_W3.out; have := sz_w4.out; have := as_W5.out; have := sz_W5.out; have := sz_w6.out; have := sz_w7.out; have := sz_w8.out; have := sz_W9.out; have := as_W10.out; have := sz_W10.out; have := as_W11.out; have := sz_W11.out; have := sz_w12.out; omega)
  have nw3_V : (w12.setCell ⟨w4.heap.size, 0, none⟩ (.slice (some ⟨gg, 0, none⟩) (n + 1) c12)).cell? ⟨w8.heap.size, 3, none⟩ = some (.string own) := cell_set1 (nw3_w12) (by have := as_W1.out; have := sz_W1.out; have := as_W2.out; have := sz_W2.out; have := as_W3.out; have := sz_W3.out; have := sz_w4.out; have := as_W5.out; have := sz_W5.out; have := sz_w6.out; have := sz_w7.out; have := sz_w8.out; have := sz_W9.out; have := as_W10.out; have := sz_W10.out; have := as_W11.out; have := sz_W11.out; have := sz_w12.out; omega)
  have nw4_V : (w12.setCell ⟨w4.heap.size, 0, none⟩ (.slice (some ⟨gg, 0, none⟩) (n + 1) c12)).cell? ⟨w8.heap.size, 4, none⟩ = some (.int .i64 (T + 1)) := cell_set1 (nw4_w12) (by have := as_W1.out; have := sz_W1.out; have := as_W2.out; have := sz_W2.out; have := as_W3.out; have := sz_W3.out; have := sz_w4.out; have := as_W5.out; have := sz_W5.out; have := sz_w6.out; have := sz_w7.out; have := sz_w8.out; have := sz_W9.out; have := as_W10.out; have := sz_W10.out; have := as_W11.out; have := sz_W11.out; have := sz_w12.out; omega)
  have nw5_V : (w12.setCell ⟨w4.heap.size, 0, none⟩ (.slice (some ⟨gg, 0, none⟩) (n + 1) c12)).cell? ⟨w8.heap.size, 5, none⟩ = some (.int .i64 (N + span)) := cell_set1 (nw5_w12) (by have := as_W1.out; have := sz_W1.out; have := as_W2.out; have := sz_W2.out; have := as_W3.out; have := sz_W3.out; have := sz_w4.out; have := as_W5.out; have := sz_W5.out; have := sz_w6.out; have := sz_w7.out; have := sz_w8.out; have := sz_W9.out; have := as_W10.out; have := sz_W10.out; have := as_W11.out; have := sz_W11.out; have := sz_w12.out; omega)
  have nwF_V : ∀ o, (w12.setCell ⟨w4.heap.size, 0, none⟩ (.slice (some ⟨gg, 0, none⟩) (n + 1) c12)).frozen? ⟨w8.heap.size, o, none⟩ = false := fun o => frz_set1 ((nwF_w12 o))
  have nwL_V : w8.heap.size < (w12.setCell ⟨w4.heap.size, 0, none⟩ (.slice (some ⟨gg, 0, none⟩) (n + 1) c12)).heap.size := by simpa using nwL_w12
  have oL_V : Hid (OwnG KLs 35 (w12.setCell ⟨w4.heap.size, 0, none⟩ (.slice (some ⟨gg, 0, none⟩) (n + 1) c12)) (W3.heap.size) (.slice (some ⟨gg, 0, none⟩) (n + 1) c12) (ls ++ [(⟨ad, own, T + 1, N + span⟩ : Ls)])) := hidP (OwnG.grown (oL_w12.out) (grown_cellG _ _ _ _) (fun k hk e => NEou.out k hk (by cases e; rfl)))
  have acc_V : Hid (Below w.heap.size w (w12.setCell ⟨w4.heap.size, 0, none⟩ (.slice (some ⟨gg, 0, none⟩) (n + 1) c12))) := hidP (Below.setCell (acc_w12.out) (by have := as_W1.out; have := sz_W1.out; have := as_W2.out; have := sz_W2.out; have := as_W3.out; have := sz_W3.out; have := sz_w4.out; have := as_W5.out; have := sz_W5.out; have := sz_w6.out; have := sz_w7.out; have := sz_w8.out; have := sz_W9.out; have := as_W10.out; have := sz_W10.out; have := as_W11.out; have := sz_W11.out; have := sz_w12.out; try dsimp only; omega) _)
  have sz_V : Hid ((w12.setCell ⟨w4.heap.size, 0, none⟩ (.slice (some ⟨gg, 0, none⟩) (n + 1) c12)).heap.size = w12.heap.size) := hidP (by simp)
  generalize w12.setCell ⟨w4.heap.size, 0, none⟩ (.slice (some ⟨gg, 0, none⟩) (n + 1) c12) = V at *
  clear ou0_w12 ou1_w12 ou2_w12 bk0_w12 bk1_w12 bk2_w12 bkF_w12 bkL_w12 at0_w12 at1_w12 at2_w12 atF_w12 atL_w12 rs0_w12 rs1_w12 rs2_w12 rsF_w12 rsL_w12 ouF_w12 ouL_w12 nw0_w12 nw1_w12 nw2_w12 nw3_w12 nw4_w12 nw5_w12 nwF_w12 nwL_w12 oL_w12 acc_w12
  go_loopw [13] (fun t13 wr => ∃ (m : Nat), t13 = .int .i64 m ∧ I ≤ m ∧ m ≤ n ∧ OwnG KLs 35 wr W3.heap.size (.slice (some ⟨gg, 0, none⟩) (n + 1) c12) ((ls ++ [(⟨ad, own, T + 1, N + span⟩ : Ls)]).take (m + 1) ++ ls.drop m) ∧ V.grownBy wr (some gg)) (fun t13 _ => (intOf t13).toNat)
  case atStart => exact ⟨n, rfl, by have := HLo.out.1; rw [← HN.out] at this; exact this, Nat.le_refl _, by have e := ins_first ls (⟨ad, own, T + 1, N + span⟩ : Ls); rw [← HN.out] at e; rw [e]; exact oL_V.out, World.grownBy.refl _ _⟩
  case round =>
    obtain ⟨m, rfl, hIm, hmn, hown, hgr⟩ := hrel
    have HGr := hidP hgr
    have HOr := hidP hown
    have HLn : Hid (n + 1 = ((ls ++ [(⟨ad, own, T + 1, N + span⟩ : Ls)]).take (m + 1) ++ ls.drop m).length) := hidP (by rw [List.length_append, List.length_take, List.length_drop, List.length_append]; have := HN.out; simp; omega)
    have hgr : V.grownBy wr (Value.slice (some ⟨gg, 0, none⟩) (n + 1) c12).ownBlock := hgr
    have nebk : ∀ k, (Value.slice (some ⟨gg, 0, none⟩) (n + 1) c12).ownBlock = some k → k ≠ w.heap.size := NEbk.out
    have bk0_wr := cell_grown hgr bk0_V nebk
    have bk1_wr := cell_grown hgr bk1_V nebk
    have bk2_wr := cell_grown hgr bk2_V nebk
    have bkF_wr : ∀ o, wr.frozen? ⟨w.heap.size, o, none⟩ = false := fun o => frz_grownZ hgr bkL_V (bkF_V o) nebk
    have bkL_wr : w.heap.size < wr.heap.size := Nat.lt_of_lt_of_le bkL_V hgr.size
    have neat : ∀ k, (Value.slice (some ⟨gg, 0, none⟩) (n + 1) c12).ownBlock = some k → k ≠ w.heap.size + 1 := NEat.out
    have at0_wr := cell_grown hgr at0_V neat
    have at1_wr := cell_grown hgr at1_V neat
    have at2_wr := cell_grown hgr at2_V neat
    have atF_wr : ∀ o, wr.frozen? ⟨w.heap.size + 1, o, none⟩ = false := fun o => frz_grownZ hgr atL_V (atF_V o) neat
    have atL_wr : w.heap.size + 1 < wr.heap.size := Nat.lt_of_lt_of_le atL_V hgr.size
    have ners : ∀ k, (Value.slice (some ⟨gg, 0, none⟩) (n + 1) c12).ownBlock = some k → k ≠ w.heap.size + 1 + 1 := NErs.out
    have rs0_wr := cell_grown hgr rs0_V ners
    have rs1_wr := cell_grown hgr rs1_V ners
    have rs2_wr := cell_grown hgr rs2_V ners
    have rsF_wr : ∀ o, wr.frozen? ⟨w.heap.size + 1 + 1, o, none⟩ = false := fun o => frz_grownZ hgr rsL_V (rsF_V o) ners
    have rsL_wr : w.heap.size + 1 + 1 < wr.heap.size := Nat.lt_of_lt_of_le rsL_V hgr.size
    have neou : ∀ k, (Value.slice (some ⟨gg, 0, none⟩) (n + 1) c12).ownBlock = some k → k ≠ w4.heap.size := NEou.out
    have ou0_wr := cell_grown hgr ou0_V neou
    have ou1_wr := cell_grown hgr ou1_V neou
    have ou2_wr := cell_grown hgr ou2_V neou
    have ouF_wr : ∀ o, wr.frozen? ⟨w4.heap.size, o, none⟩ = false := fun o => frz_grownZ hgr ouL_V (ouF_V o) neou
    have ouL_wr : w4.heap.size < wr.heap.size := Nat.lt_of_lt_of_le ouL_V hgr.size
    have nenw : ∀ k, (Value.slice (some ⟨gg, 0, none⟩) (n + 1) c12).ownBlock = some k → k ≠ w8.heap.size := NEnw.out
    have nw0_wr := cell_grown hgr nw0_V nenw
    have nw1_wr := cell_grown hgr nw1_V nenw
    have nw2_wr := cell_grown hgr nw2_V nenw
    have nw3_wr := cell_grown hgr nw3_V nenw
    have nw4_wr := cell_grown hgr nw4_V nenw
    have nw5_wr := cell_grown hgr nw5_V nenw
    have nwF_wr : ∀ o, wr.frozen? ⟨w8.heap.size, o, none⟩ = false := fun o => frz_grownZ hgr nwL_V (nwF_V o) nenw
    have nwL_wr : w8.heap.size < wr.heap.size := Nat.lt_of_lt_of_le nwL_V hgr.size
    have oL_wr := hidP (HOr.out)
    have acc_wr := hidP (Below.grown acc_V.out hgr acc_V.out.size (fun k hk => by have h5 := lhL.out k hk; have := as_W1.out; have := sz_W1.out; have := as_W2.out; have := sz_W2.out; have := as_W3.out; have := sz_W3.out; have := sz_w4.out; have := as_W5.out; have := sz_W5.out; have := sz_w6.out; have := sz_w7.out; have := sz_w8.out; have := sz_W9.out; have := as_W10.out; have := sz_W10.out; have := as_W11.out; have := sz_W11.out; have := sz_w12.out; have := sz_V.out; omega))
    have sz_wr : Hid (V.heap.size ≤ wr.heap.size) := hidP hgr.size
    clear hgr bk0_V bk1_V bk2_V bkF_V bkL_V nebk at0_V at1_V at2_V atF_V atL_V neat rs0_V rs1_V rs2_V rsF_V rsL_V ners ou0_V ou1_V ou2_V ouF_V ouL_V neou nw0_V nw1_V nw2_V nw3_V nw4_V nw5_V nwF_V nwL_V nenw oL_V acc_V
    clear hown HOr
    have im0 : (0 : Int) ≤ (m : Int) := by omega
    have im1 : (m : Int) < (n : Int) + 1 := by omega
    have im2 : m < n + 1 := by omega
    by_cases hm0 : m = 0
    · have HM0 := hidP hm0
      have dm : decide ((0 : Int) < (m : Int)) = false := decide_eq_false (by omega)
      have dm2 : decide (0 < m) = false := decide_eq_false (by omega)
      have dm3 : ¬ (0 < m) := by omega
      clear hm0
      go_wp2_with fail
      have HSx : Hid (∀ x, Below wr.heap.size wr x → (x.cell? ⟨w4.heap.size, 0, none⟩ = some (.slice (some ⟨gg, 0, none⟩) (n + 1) c12) ∧ Below wr.heap.size wr x)) := hidP fun x h =>
        ⟨(h.cell ouL_wr).trans ou0_wr, h⟩
      refine wp_region_held_drew (S := (fun x => x.cell? ⟨w4.heap.size, 0, none⟩ = some (.slice (some ⟨gg, 0, none⟩) (n + 1) c12) ∧ Below wr.heap.size wr x)) (by kernel_rfl) ?_ (fun hHeld => ?_)
      · try dsimp only
        exact HSx.out _ ((Below.refl _ _).drew)
      refine tkA 0 82 (v := ?_) rfl (by kernel_rfl) (fun _ _ _ h => h) (by rfl) ?_ (by assumption) ?_; rotate_left; · (intro w hSw; (try dsimp only at hSw); go_simp; try with_reducible rfl)
      simp only [Act.put, List.setIfInBounds_toArray, List.set_cons_zero, List.set_cons_succ]
      refine tkA 1 83 (v := ?_) rfl (by kernel_rfl) (fun _ _ _ h => h) (by rfl) ?_ (by assumption) ?_; rotate_left; · (intro w hSw; (try dsimp only at hSw); go_simp; try with_reducible rfl)
      simp only [Act.put, List.setIfInBounds_toArray, List.set_cons_zero, List.set_cons_succ]
      refine tkA 2 84 (v := ?_) rfl (by kernel_rfl) (fun _ _ _ h => h) (by rfl) ?_ (by assumption) ?_; rotate_left; · (intro w hSw; (try dsimp only at hSw); go_simp; try with_reducible rfl)
      simp only [Act.put, List.setIfInBounds_toArray, List.set_cons_zero, List.set_cons_succ]
      refine wpAnyH_take (i := 3) (oi := ⟨some 85, _, _, _, _, _⟩) (v := undef) rfl (by kernel_rfl) (by kernel_rfl) (by kernel_rfl) (fun _ _ _ h => h) (Or.inr ⟨by rfl, rfl⟩) (by assumption) ?_
      simp only [Act.put, List.setIfInBounds_toArray, List.set_cons_zero, List.set_cons_succ]
      refine wpAnyH_take (i := 4) (oi := ⟨some 86, _, _, _, _, _⟩) (v := undef) rfl (by kernel_rfl) (by kernel_rfl) (by kernel_rfl) (fun _ _ _ h => h) (Or.inr ⟨by rfl, rfl⟩) (by assumption) ?_
      simp only [Act.put, List.setIfInBounds_toArray, List.set_cons_zero, List.set_cons_succ]
      refine wpAnyH_take (i := 5) (oi := ⟨some 87, _, _, _, _, _⟩) (v := undef) rfl (by kernel_rfl) (by kernel_rfl) (by kernel_rfl) (fun _ _ _ h => h) (Or.inr ⟨by rfl, rfl⟩) (by assumption) ?_
      simp only [Act.put, List.setIfInBounds_toArray, List.set_cons_zero, List.set_cons_succ]
      refine wpAnyH_take (i := 6) (oi := ⟨some 88, _, _, _, _, _⟩) (v := undef) rfl (by kernel_rfl) (by kernel_rfl) (by kernel_rfl) (fun _ _ _ h => h) (Or.inr ⟨by rfl, rfl⟩) (by assumption) ?_
      simp only [Act.put, List.setIfInBounds_toArray, List.set_cons_zero, List.set_cons_succ]
      refine wpAnyH_take (i := 7) (oi := ⟨some 89, _, _, _, _, _⟩) (v := undef) rfl (by kernel_rfl) (by kernel_rfl) (by kernel_rfl) (fun _ _ _ h => h) (Or.inr ⟨by rfl, rfl⟩) (by assumption) ?_
      simp only [Act.put, List.setIfInBounds_toArray, List.set_cons_zero, List.set_cons_succ]
      refine wpAnyH_take (i := 8) (oi := ⟨some 90, _, _, _, _, _⟩) (v := undef) rfl (by kernel_rfl) (by kernel_rfl) (by kernel_rfl) (fun _ _ _ h => h) (Or.inr ⟨by rfl, rfl⟩) (by assumption) ?_
      simp only [Act.put, List.setIfInBounds_toArray, List.set_cons_zero, List.set_cons_succ]
      refine wpAnyH_take (i := 9) (oi := ⟨some 91, _, _, _, _, _⟩) (v := undef) rfl (by kernel_rfl) (by kernel_rfl) (by kernel_rfl) (fun _ _ _ h => h) (Or.inr ⟨by rfl, rfl⟩) (by assumption) ?_
      simp only [Act.put, List.setIfInBounds_toArray, List.set_cons_zero, List.set_cons_succ]
      refine wpAnyH_take (i := 10) (oi := ⟨some 92, _, _, _, _, _⟩) (v := undef) rfl (by kernel_rfl) (by kernel_rfl) (by kernel_rfl) (fun _ _ _ h => h) (Or.inr ⟨by rfl, rfl⟩) (by assumption) ?_
      simp only [Act.put, List.setIfInBounds_toArray, List.set_cons_zero, List.set_cons_succ]
      refine wpAnyH_take (i := 11) (oi := ⟨some 93, _, _, _, _, _⟩) (v := undef) rfl (by kernel_rfl) (by kernel_rfl) (by kernel_rfl) (fun _ _ _ h => h) (Or.inr ⟨by rfl, rfl⟩) (by assumption) ?_
      simp only [Act.put, List.setIfInBounds_toArray, List.set_cons_zero, List.set_cons_succ]
      refine wpAnyH_take (i := 12) (oi := ⟨some 94, _, _, _, _, _⟩) (v := undef) rfl (by kernel_rfl) (by kernel_rfl) (by kernel_rfl) (fun _ _ _ h => h) (Or.inr ⟨by rfl, rfl⟩) (by assumption) ?_
      simp only [Act.put, List.setIfInBounds_toArray, List.set_cons_zero, List.set_cons_succ]
      refine tkA 13 95 (v := ?_) rfl (by kernel_rfl) (fun _ _ _ h => h) (by rfl) ?_ (by assumption) ?_; rotate_left; · (intro w hSw; (try dsimp only at hSw); go_simp; try with_reducible rfl)
      simp only [Act.put, List.setIfInBounds_toArray, List.set_cons_zero, List.set_cons_succ]
      have HE := hidP (hHeld.2)
      refine wpAnyH_done (by kernel_rfl) ?_ _
      clear hHeld
      clear HE HSx
      have hb13 : Below wr.heap.size wr wr.drew := (Below.refl _ _).drew
      generalize wr.drew = w13 at *
      have bk0_w13 := (hb13.cell bkL_wr).trans bk0_wr
      have bk1_w13 := (hb13.cell bkL_wr).trans bk1_wr
      have bk2_w13 := (hb13.cell bkL_wr).trans bk2_wr
      have bkF_w13 : ∀ o, w13.frozen? ⟨w.heap.size, o, none⟩ = false := fun o => (hb13.frozen bkL_wr).trans (bkF_wr o)
      have bkL_w13 : w.heap.size < w13.heap.size := Nat.lt_of_lt_of_le bkL_wr hb13.size
      have at0_w13 := (hb13.cell atL_wr).trans at0_wr
      have at1_w13 := (hb13.cell atL_wr).trans at1_wr
      have at2_w13 := (hb13.cell atL_wr).trans at2_wr
      have atF_w13 : ∀ o, w13.frozen? ⟨w.heap.size + 1, o, none⟩ = false := fun o => (hb13.frozen atL_wr).trans (atF_wr o)
      have atL_w13 : w.heap.size + 1 < w13.heap.size := Nat.lt_of_lt_of_le atL_wr hb13.size
      have rs0_w13 := (hb13.cell rsL_wr).trans rs0_wr
      have rs1_w13 := (hb13.cell rsL_wr).trans rs1_wr
      have rs2_w13 := (hb13.cell rsL_wr).trans rs2_wr
      have rsF_w13 : ∀ o, w13.frozen? ⟨w.heap.size + 1 + 1, o, none⟩ = false := fun o => (hb13.frozen rsL_wr).trans (rsF_wr o)
      have rsL_w13 : w.heap.size + 1 + 1 < w13.heap.size := Nat.lt_of_lt_of_le rsL_wr hb13.size
      have ou0_w13 := (hb13.cell ouL_wr).trans ou0_wr
      have ou1_w13 := (hb13.cell ouL_wr).trans ou1_wr
      have ou2_w13 := (hb13.cell ouL_wr).trans ou2_wr
      have ouF_w13 : ∀ o, w13.frozen? ⟨w4.heap.size, o, none⟩ = false := fun o => (hb13.frozen ouL_wr).trans (ouF_wr o)
      have ouL_w13 : w4.heap.size < w13.heap.size := Nat.lt_of_lt_of_le ouL_wr hb13.size
      have nw0_w13 := (hb13.cell nwL_wr).trans nw0_wr
      have nw1_w13 := (hb13.cell nwL_wr).trans nw1_wr
      have nw2_w13 := (hb13.cell nwL_wr).trans nw2_wr
      have nw3_w13 := (hb13.cell nwL_wr).trans nw3_wr
      have nw4_w13 := (hb13.cell nwL_wr).trans nw4_wr
      have nw5_w13 := (hb13.cell nwL_wr).trans nw5_wr
      have nwF_w13 : ∀ o, w13.frozen? ⟨w8.heap.size, o, none⟩ = false := fun o => (hb13.frozen nwL_wr).trans (nwF_wr o)
      have nwL_w13 : w8.heap.size < w13.heap.size := Nat.lt_of_lt_of_le nwL_wr hb13.size
      have oL_w13 := hidP (OwnG.later oL_wr.out hb13)
      have acc_w13 := hidP (acc_wr.out.trans (hb13.mono acc_wr.out.size))
      have sz_w13 : Hid (wr.heap.size ≤ w13.heap.size) := hidP hb13.size
      clear hb13 bk0_wr bk1_wr bk2_wr bkF_wr bkL_wr at0_wr at1_wr at2_wr atF_wr atL_wr rs0_wr rs1_wr rs2_wr rsF_wr rsL_wr ou0_wr ou1_wr ou2_wr ouF_wr ouL_wr nw0_wr nw1_wr nw2_wr nw3_wr nw4_wr nw5_wr nwF_wr nwL_wr oL_wr acc_wr
      have HMI : Hid (m = I) := hidP (by have := HM0.out; omega)
      obtain ⟨q', hgL, hq', x0, x1, x2, x3, x4, x5⟩ := rowLs0 oL_w13.out m (by rw [← HLn.out]; omega)
      obtain ⟨f0, f1, f2, f3, f4, f5⟩ := frzLs oL_w13.out m
      have HPu := hidP (putLsN (x0 := ad.s) (x1 := ad.H.toInt) (x2 := ad.L.toInt) (x3 := own) (x4 := T + 1) (x5 := N + span) oL_w13.out HLn.out m (by omega) (⟨ad, own, T + 1, N + span⟩ : Ls) rfl rfl rfl rfl rfl rfl)
      rw [set_newL ls _ m (by have := HN.out; omega)] at HPu
      clear hq'
      go_wp2_with fail
      have hgY : w13.grownBy ((((((w13.setCell ⟨gg, m * 6, none⟩ (.bool ad.s)).setCell ⟨gg, m * 6 + 1, none⟩ (.int .i64 ad.H.toInt)).setCell ⟨gg, m * 6 + 2, none⟩ (.int .i64 ad.L.toInt)).setCell ⟨gg, m * 6 + 3, none⟩ (.string own)).setCell ⟨gg, m * 6 + 4, none⟩ (.int .i64 (T + 1))).setCell ⟨gg, m * 6 + 5, none⟩ (.int .i64 (N + span))) (Value.slice (some ⟨gg, 0, none⟩) (n + 1) c12).ownBlock := (World.grownBy.trans (World.grownBy.trans (World.grownBy.trans (World.grownBy.trans (World.grownBy.trans (World.grownBy.trans (World.grownBy.refl _ _) (grown_cellG _ gg (m * 6) _)) (grown_cellG _ gg (m * 6 + 1) _)) (grown_cellG _ gg (m * 6 + 2) _)) (grown_cellG _ gg (m * 6 + 3) _)) (grown_cellG _ gg (m * 6 + 4) _)) (grown_cellG _ gg (m * 6 + 5) _))
      have OY : Hid (OwnG KLs 35 ((((((w13.setCell ⟨gg, m * 6, none⟩ (.bool ad.s)).setCell ⟨gg, m * 6 + 1, none⟩ (.int .i64 ad.H.toInt)).setCell ⟨gg, m * 6 + 2, none⟩ (.int .i64 ad.L.toInt)).setCell ⟨gg, m * 6 + 3, none⟩ (.string own)).setCell ⟨gg, m * 6 + 4, none⟩ (.int .i64 (T + 1))).setCell ⟨gg, m * 6 + 5, none⟩ (.int .i64 (N + span))) W3.heap.size (.slice (some ⟨gg, 0, none⟩) (n + 1) c12) (ls.take m ++ [(⟨ad, own, T + 1, N + span⟩ : Ls)] ++ ls.drop m)) := HPu
      generalize ((((((w13.setCell ⟨gg, m * 6, none⟩ (.bool ad.s)).setCell ⟨gg, m * 6 + 1, none⟩ (.int .i64 ad.H.toInt)).setCell ⟨gg, m * 6 + 2, none⟩ (.int .i64 ad.L.toInt)).setCell ⟨gg, m * 6 + 3, none⟩ (.string own)).setCell ⟨gg, m * 6 + 4, none⟩ (.int .i64 (T + 1))).setCell ⟨gg, m * 6 + 5, none⟩ (.int .i64 (N + span))) = Y at *
      clear HPu x0 x1 x2 x3 x4 x5 f0 f1 f2 f3 f4 f5 hgL
      have nebk : ∀ k, (Value.slice (some ⟨gg, 0, none⟩) (n + 1) c12).ownBlock = some k → k ≠ w.heap.size := NEbk.out
      have bk0_Y := cell_grown hgY bk0_w13 nebk
      have bk1_Y := cell_grown hgY bk1_w13 nebk
      have bk2_Y := cell_grown hgY bk2_w13 nebk
      have bkF_Y : ∀ o, Y.frozen? ⟨w.heap.size, o, none⟩ = false := fun o => frz_grownZ hgY bkL_w13 (bkF_w13 o) nebk
      have bkL_Y : w.heap.size < Y.heap.size := Nat.lt_of_lt_of_le bkL_w13 hgY.size
      have neat : ∀ k, (Value.slice (some ⟨gg, 0, none⟩) (n + 1) c12).ownBlock = some k → k ≠ w.heap.size + 1 := NEat.out
      have at0_Y := cell_grown hgY at0_w13 neat
      have at1_Y := cell_grown hgY at1_w13 neat
      have at2_Y := cell_grown hgY at2_w13 neat
      have atF_Y : ∀ o, Y.frozen? ⟨w.heap.size + 1, o, none⟩ = false := fun o => frz_grownZ hgY atL_w13 (atF_w13 o) neat
      have atL_Y : w.heap.size + 1 < Y.heap.size := Nat.lt_of_lt_of_le atL_w13 hgY.size
      have ners : ∀ k, (Value.slice (some ⟨gg, 0, none⟩) (n + 1) c12).ownBlock = some k → k ≠ w.heap.size + 1 + 1 := NErs.out
      have rs0_Y := cell_grown hgY rs0_w13 ners
      have rs1_Y := cell_grown hgY rs1_w13 ners
      have rs2_Y := cell_grown hgY rs2_w13 ners
      have rsF_Y : ∀ o, Y.frozen? ⟨w.heap.size + 1 + 1, o, none⟩ = false := fun o => frz_grownZ hgY rsL_w13 (rsF_w13 o) ners
      have rsL_Y : w.heap.size + 1 + 1 < Y.heap.size := Nat.lt_of_lt_of_le rsL_w13 hgY.size
      have neou : ∀ k, (Value.slice (some ⟨gg, 0, none⟩) (n + 1) c12).ownBlock = some k → k ≠ w4.heap.size := NEou.out
      have ou0_Y := cell_grown hgY ou0_w13 neou
      have ou1_Y := cell_grown hgY ou1_w13 neou
      have ou2_Y := cell_grown hgY ou2_w13 neou
      have ouF_Y : ∀ o, Y.frozen? ⟨w4.heap.size, o, none⟩ = false := fun o => frz_grownZ hgY ouL_w13 (ouF_w13 o) neou
      have ouL_Y : w4.heap.size < Y.heap.size := Nat.lt_of_lt_of_le ouL_w13 hgY.size
      have nenw : ∀ k, (Value.slice (some ⟨gg, 0, none⟩) (n + 1) c12).ownBlock = some k → k ≠ w8.heap.size := NEnw.out
      have nw0_Y := cell_grown hgY nw0_w13 nenw
      have nw1_Y := cell_grown hgY nw1_w13 nenw
      have nw2_Y := cell_grown hgY nw2_w13 nenw
      have nw3_Y := cell_grown hgY nw3_w13 nenw
      have nw4_Y := cell_grown hgY nw4_w13 nenw
      have nw5_Y := cell_grown hgY nw5_w13 nenw
      have nwF_Y : ∀ o, Y.frozen? ⟨w8.heap.size, o, none⟩ = false := fun o => frz_grownZ hgY nwL_w13 (nwF_w13 o) nenw
      have nwL_Y : w8.heap.size < Y.heap.size := Nat.lt_of_lt_of_le nwL_w13 hgY.size
      have oL_Y := hidP (OY.out)
      have acc_Y := hidP (Below.grown acc_w13.out hgY acc_w13.out.size (fun k hk => by have h5 := lhL.out k hk; have := as_W1.out; have := sz_W1.out; have := as_W2.out; have := sz_W2.out; have := as_W3.out; have := sz_W3.out; have := sz_w4.out; have := as_W5.out; have := sz_W5.out; have := sz_w6.out; have := sz_w7.out; have := sz_w8.out; have := sz_W9.out; have := as_W10.out; have := sz_W10.out; have := as_W11.out; have := sz_W11.out; have := sz_w12.out; have := sz_V.out; have := sz_wr.out; have := sz_w13.out; omega))
      have sz_Y : Hid (w13.heap.size ≤ Y.heap.size) := hidP hgY.size
      clear hgY bk0_w13 bk1_w13 bk2_w13 bkF_w13 bkL_w13 nebk at0_w13 at1_w13 at2_w13 atF_w13 atL_w13 neat rs0_w13 rs1_w13 rs2_w13 rsF_w13 rsL_w13 ners ou0_w13 ou1_w13 ou2_w13 ouF_w13 ouL_w13 neou nw0_w13 nw1_w13 nw2_w13 nw3_w13 nw4_w13 nw5_w13 nwF_w13 nwL_w13 nenw oL_w13 acc_w13
      clear OY
      as_aux_lemma =>
        go_region
        all_goals go_wp2_with fail
        have hmI := HMI.out
        clear HMI
        subst hmI
        refine bodyPost_ret (v := .tuple #[.agg #[.slice (some ⟨gg, 0, none⟩) (n + 1) c12, .int .i64 (T + 1), .int .i64 N], .int .i64 (T + 1), .int .i64 0]) (by simp [results, Tryz.results8, go_sem, rs0_Y, rs1_Y, rs2_Y]) rfl ⟨_, _, rfl, ?_, ?_⟩
        · refine OwnG.mono (B := W3.heap.size) ?_ (by have := as_W1.out; have := sz_W1.out; have := as_W2.out; have := sz_W2.out; have := as_W3.out; have := sz_W3.out; have := sz_w4.out; have := as_W5.out; have := sz_W5.out; have := sz_w6.out; have := sz_w7.out; have := sz_w8.out; have := sz_W9.out; have := as_W10.out; have := sz_W10.out; have := as_W11.out; have := sz_W11.out; have := sz_w12.out; have := sz_V.out; have := sz_wr.out; have := sz_w13.out; have := sz_Y.out; omega)
          refine OwnG.drewG ?_
          iterate 3 (with_reducible refine OwnG.grown ?_ (grown_cellG _ _ _ _) ?_; rotate_left; (focus (exact OwnG.ne_of oL_Y.out (by have := as_W1.out; have := sz_W1.out; have := as_W2.out; have := sz_W2.out; have := as_W3.out; have := sz_W3.out; have := sz_w4.out; have := as_W5.out; have := sz_W5.out; have := sz_w6.out; have := sz_w7.out; have := sz_w8.out; have := sz_W9.out; have := as_W10.out; have := sz_W10.out; have := as_W11.out; have := sz_W11.out; have := sz_w12.out; have := sz_V.out; have := sz_wr.out; have := sz_w13.out; have := sz_Y.out; omega))))
          with_reducible exact oL_Y.out
        · refine Below.drew ?_; repeat (with_reducible refine Below.setCell ?_ ?_ _; rotate_left; (focus (first | (simp; done) | (simp; omega))))
          exact acc_Y.out
    · obtain ⟨i, rfl⟩ : ∃ i, m = i + 1 := ⟨m - 1, by omega⟩
      clear hm0
      have hil : i < ls.length := by have := HN.out; omega
      obtain ⟨q, hgL, hq0, c0, c1, c2, c3', c4, c5⟩ := rowLs0 oL_wr.out i (by rw [← HLn.out]; omega)
      rw [lm_at ls _ i hil] at hq0
      have hne := HXn.out i q hq0
      have hqok : q.a.ok = true := HS.out.2 q (List.mem_of_getElem? hq0)
      have HCq := hidP ((cmp_ok q.a.s q.a.H q.a.L ad.s ad.H ad.L hqok HAo.out).1)
      have HQ := hidP hq0
      have dm : decide ((0 : Int) < ((i : Int) + 1)) = true := decide_eq_true (by omega)
      have i0 : (0 : Int) ≤ (i : Int) := by omega
      have i1 : (i : Int) < (n : Int) + 1 := by omega
      have wi : IntKind.i64.wrap ((i : Int) + 1) = (i : Int) + 1 := by rw [IntKind.wrap_i64]; omega
      have wi' : IntKind.i64.wrap (i : Int) = (i : Int) := by rw [IntKind.wrap_i64]; omega
      clear hq0 hqok hil
      by_cases hlt : q.a.key < ad.key
      · have dcp : decide (0 < cmpW (keyN q.a.s q.a.H q.a.L : Int) (keyN ad.s ad.H ad.L : Int)) = false := by rw [cmpW_gt]; exact decide_eq_false (by have h1 : q.a.key = keyN q.a.s q.a.H q.a.L := rfl; have h2 : ad.key = keyN ad.s ad.H ad.L := rfl; omega)
        have HLt := hidP hlt
        have HNe := hidP hne
        clear hlt hne
        go_wp2_with fail
        have HSx : Hid (∀ x, Below wr.heap.size wr x → (x.cell? ⟨w4.heap.size, 0, none⟩ = some (.slice (some ⟨gg, 0, none⟩) (n + 1) c12) ∧ x.cell? ⟨gg, i * 6, none⟩ = some (.bool q.a.s) ∧ x.cell? ⟨gg, i * 6 + 1, none⟩ = some (.int .i64 q.a.H.toInt) ∧ x.cell? ⟨gg, i * 6 + 2, none⟩ = some (.int .i64 q.a.L.toInt) ∧ x.cell? ⟨w.heap.size + 1, 0, none⟩ = some (.bool ad.s) ∧ x.cell? ⟨w.heap.size + 1, 1, none⟩ = some (.int .i64 ad.H.toInt) ∧ x.cell? ⟨w.heap.size + 1, 2, none⟩ = some (.int .i64 ad.L.toInt) ∧ Below wr.heap.size wr x)) := hidP fun x h =>
          ⟨(h.cell ouL_wr).trans ou0_wr, (h.cell hgL).trans c0, (h.cell hgL).trans c1, (h.cell hgL).trans c2, (h.cell atL_wr).trans at0_wr, (h.cell atL_wr).trans at1_wr, (h.cell atL_wr).trans at2_wr, h⟩
        refine wp_region_held_drew (S := (fun x => x.cell? ⟨w4.heap.size, 0, none⟩ = some (.slice (some ⟨gg, 0, none⟩) (n + 1) c12) ∧ x.cell? ⟨gg, i * 6, none⟩ = some (.bool q.a.s) ∧ x.cell? ⟨gg, i * 6 + 1, none⟩ = some (.int .i64 q.a.H.toInt) ∧ x.cell? ⟨gg, i * 6 + 2, none⟩ = some (.int .i64 q.a.L.toInt) ∧ x.cell? ⟨w.heap.size + 1, 0, none⟩ = some (.bool ad.s) ∧ x.cell? ⟨w.heap.size + 1, 1, none⟩ = some (.int .i64 ad.H.toInt) ∧ x.cell? ⟨w.heap.size + 1, 2, none⟩ = some (.int .i64 ad.L.toInt) ∧ Below wr.heap.size wr x)) (by kernel_rfl) ?_ (fun hHeld => ?_)
        · try dsimp only
          exact HSx.out _ ((Below.refl _ _).drew)
        refine tkA 0 82 (v := ?_) rfl (by kernel_rfl) (fun _ _ _ h => h) (by rfl) ?_ (by assumption) ?_; rotate_left; · (intro w hSw; (try dsimp only at hSw); go_simp; try with_reducible rfl)
        simp only [Act.put, List.setIfInBounds_toArray, List.set_cons_zero, List.set_cons_succ]
        refine tkA 1 83 (v := ?_) rfl (by kernel_rfl) (fun _ _ _ h => h) (by rfl) ?_ (by assumption) ?_; rotate_left; · (intro w hSw; (try dsimp only at hSw); go_simp; try with_reducible rfl)
        simp only [Act.put, List.setIfInBounds_toArray, List.set_cons_zero, List.set_cons_succ]
        refine tkA 2 84 (v := ?_) rfl (by kernel_rfl) (fun _ _ _ h => h) (by rfl) ?_ (by assumption) ?_; rotate_left; · (intro w hSw; (try dsimp only at hSw); go_simp; try with_reducible rfl)
        simp only [Act.put, List.setIfInBounds_toArray, List.set_cons_zero, List.set_cons_succ]
        refine tkA 3 85 (v := ?_) rfl (by kernel_rfl) (fun _ _ _ h => h) (by rfl) ?_ (by assumption) ?_; rotate_left; · (intro w hSw; (try dsimp only at hSw); go_simp; try with_reducible rfl)
        simp only [Act.put, List.setIfInBounds_toArray, List.set_cons_zero, List.set_cons_succ]
        refine tkA 4 86 (v := ?_) rfl (by kernel_rfl) (fun _ _ _ h => h) (by rfl) ?_ (by assumption) ?_; rotate_left; · (intro w hSw; (try dsimp only at hSw); go_simp; try with_reducible rfl)
        simp only [Act.put, List.setIfInBounds_toArray, List.set_cons_zero, List.set_cons_succ]
        refine tkA 5 87 (v := ?_) rfl (by kernel_rfl) (fun _ _ _ h => h) (by rfl) ?_ (by assumption) ?_; rotate_left; · (intro w hSw; (try dsimp only at hSw); go_simp; try with_reducible rfl)
        simp only [Act.put, List.setIfInBounds_toArray, List.set_cons_zero, List.set_cons_succ]
        refine tkA 6 88 (v := ?_) rfl (by kernel_rfl) (fun _ _ _ h => h) (by rfl) ?_ (by assumption) ?_; rotate_left; · (intro w hSw; (try dsimp only at hSw); go_simp; try with_reducible rfl)
        simp only [Act.put, List.setIfInBounds_toArray, List.set_cons_zero, List.set_cons_succ]
        refine tkA 7 89 (v := ?_) rfl (by kernel_rfl) (fun _ _ _ h => h) (by rfl) ?_ (by assumption) ?_; rotate_left; · (intro w hSw; (try dsimp only at hSw); go_simp; try with_reducible rfl)
        simp only [Act.put, List.setIfInBounds_toArray, List.set_cons_zero, List.set_cons_succ]
        refine tkA 8 90 (v := ?_) rfl (by kernel_rfl) (fun _ _ _ h => h) (by rfl) ?_ (by assumption) ?_; rotate_left; · (intro w hSw; (try dsimp only at hSw); go_simp; try with_reducible rfl)
        simp only [Act.put, List.setIfInBounds_toArray, List.set_cons_zero, List.set_cons_succ]
        refine tkA 9 91 (v := ?_) rfl (by kernel_rfl) (fun _ _ _ h => h) (by rfl) ?_ (by assumption) ?_; rotate_left; · (intro w hSw; (try dsimp only at hSw); go_simp; try with_reducible rfl)
        simp only [Act.put, List.setIfInBounds_toArray, List.set_cons_zero, List.set_cons_succ]
        refine tkA 10 92 (v := ?_) rfl (by kernel_rfl) (fun _ _ _ h => h) (by rfl) ?_ (by assumption) ?_; rotate_left; · (intro w hSw; (try dsimp only at hSw); go_simp; try with_reducible rfl)
        simp only [Act.put, List.setIfInBounds_toArray, List.set_cons_zero, List.set_cons_succ]
        refine wpAnyH_ready (rs := [11]) (by kernel_rfl) (by simp) ?_
        refine AllReadyH.cons rfl (fun K hK => ?_) AllReadyH.nil
        go_simp
        go_wp2_with (first | (go_at_call 33; refine (HCq.out _).mono ?_; rintro e w2 ⟨rfl, hb2⟩; have b2 := (hHeld.2.2.2.2.2.2.2).trans (hb2.mono (hHeld.2.2.2.2.2.2.2).size)))
        refine hK.out _ _ ?_ (fun hHeld => ?_)
        · try dsimp only
          exact HSx.out _ b2
        clear hK K
        refine tkA 12 94 (v := ?_) rfl (by kernel_rfl) (fun _ _ _ h => h) (by rfl) ?_ (by assumption) ?_; rotate_left; · (intro w hSw; (try dsimp only at hSw); go_simp; try with_reducible rfl)
        simp only [Act.put, List.setIfInBounds_toArray, List.set_cons_zero, List.set_cons_succ]
        refine tkA 13 95 (v := ?_) rfl (by kernel_rfl) (fun _ _ _ h => h) (by rfl) ?_ (by assumption) ?_; rotate_left; · (intro w hSw; (try dsimp only at hSw); go_simp; try with_reducible rfl)
        simp only [Act.put, List.setIfInBounds_toArray, List.set_cons_zero, List.set_cons_succ]
        have HE := hidP (hHeld.2.2.2.2.2.2.2)
        refine wpAnyH_done (by kernel_rfl) ?_ _
        clear hHeld
        have hbE : Below wr.heap.size wr w2 := HE.out
        clear HE HSx c0 c1 c2 c3' c4 c5 hgL
        have bk0_w2 := (hbE.cell bkL_wr).trans bk0_wr
        have bk1_w2 := (hbE.cell bkL_wr).trans bk1_wr
        have bk2_w2 := (hbE.cell bkL_wr).trans bk2_wr
        have bkF_w2 : ∀ o, w2.frozen? ⟨w.heap.size, o, none⟩ = false := fun o => (hbE.frozen bkL_wr).trans (bkF_wr o)
        have bkL_w2 : w.heap.size < w2.heap.size := Nat.lt_of_lt_of_le bkL_wr hbE.size
        have at0_w2 := (hbE.cell atL_wr).trans at0_wr
        have at1_w2 := (hbE.cell atL_wr).trans at1_wr
        have at2_w2 := (hbE.cell atL_wr).trans at2_wr
        have atF_w2 : ∀ o, w2.frozen? ⟨w.heap.size + 1, o, none⟩ = false := fun o => (hbE.frozen atL_wr).trans (atF_wr o)
        have atL_w2 : w.heap.size + 1 < w2.heap.size := Nat.lt_of_lt_of_le atL_wr hbE.size
        have rs0_w2 := (hbE.cell rsL_wr).trans rs0_wr
        have rs1_w2 := (hbE.cell rsL_wr).trans rs1_wr
        have rs2_w2 := (hbE.cell rsL_wr).trans rs2_wr
        have rsF_w2 : ∀ o, w2.frozen? ⟨w.heap.size + 1 + 1, o, none⟩ = false := fun o => (hbE.frozen rsL_wr).trans (rsF_wr o)
        have rsL_w2 : w.heap.size + 1 + 1 < w2.heap.size := Nat.lt_of_lt_of_le rsL_wr hbE.size
        have ou0_w2 := (hbE.cell ouL_wr).trans ou0_wr
        have ou1_w2 := (hbE.cell ouL_wr).trans ou1_wr
        have ou2_w2 := (hbE.cell ouL_wr).trans ou2_wr
        have ouF_w2 : ∀ o, w2.frozen? ⟨w4.heap.size, o, none⟩ = false := fun o => (hbE.frozen ouL_wr).trans (ouF_wr o)
        have ouL_w2 : w4.heap.size < w2.heap.size := Nat.lt_of_lt_of_le ouL_wr hbE.size
        have nw0_w2 := (hbE.cell nwL_wr).trans nw0_wr
        have nw1_w2 := (hbE.cell nwL_wr).trans nw1_wr
        have nw2_w2 := (hbE.cell nwL_wr).trans nw2_wr
        have nw3_w2 := (hbE.cell nwL_wr).trans nw3_wr
        have nw4_w2 := (hbE.cell nwL_wr).trans nw4_wr
        have nw5_w2 := (hbE.cell nwL_wr).trans nw5_wr
        have nwF_w2 : ∀ o, w2.frozen? ⟨w8.heap.size, o, none⟩ = false := fun o => (hbE.frozen nwL_wr).trans (nwF_wr o)
        have nwL_w2 : w8.heap.size < w2.heap.size := Nat.lt_of_lt_of_le nwL_wr hbE.size
        have oL_w2 := hidP (OwnG.later oL_wr.out hbE)
        have acc_w2 := hidP (acc_wr.out.trans (hbE.mono acc_wr.out.size))
        have sz_w2 : Hid (wr.heap.size ≤ w2.heap.size) := hidP hbE.size
        clear hbE bk0_wr bk1_wr bk2_wr bkF_wr bkL_wr at0_wr at1_wr at2_wr atF_wr atL_wr rs0_wr rs1_wr rs2_wr rsF_wr rsL_wr ou0_wr ou1_wr ou2_wr ouF_wr ouL_wr nw0_wr nw1_wr nw2_wr nw3_wr nw4_wr nw5_wr nwF_wr nwL_wr oL_wr acc_wr
        have HMI : Hid ((i + 1) = I) := hidP (by have h1 := HLo.out.2.2 i q; rcases Nat.lt_or_ge i I with h | h; omega; (have h2 := h1 h HQ.out; have := HLt.out; omega))
        obtain ⟨q', hgL, hq', x0, x1, x2, x3, x4, x5⟩ := rowLs0 oL_w2.out (i + 1) (by rw [← HLn.out]; omega)
        obtain ⟨f0, f1, f2, f3, f4, f5⟩ := frzLs oL_w2.out (i + 1)
        have HPu := hidP (putLsN (x0 := ad.s) (x1 := ad.H.toInt) (x2 := ad.L.toInt) (x3 := own) (x4 := T + 1) (x5 := N + span) oL_w2.out HLn.out (i + 1) (by omega) (⟨ad, own, T + 1, N + span⟩ : Ls) rfl rfl rfl rfl rfl rfl)
        rw [set_newL ls _ (i + 1) (by have := HN.out; omega)] at HPu
        clear hq'
        go_wp2_with fail
        have hgY : w2.grownBy ((((((w2.setCell ⟨gg, (i + 1) * 6, none⟩ (.bool ad.s)).setCell ⟨gg, (i + 1) * 6 + 1, none⟩ (.int .i64 ad.H.toInt)).setCell ⟨gg, (i + 1) * 6 + 2, none⟩ (.int .i64 ad.L.toInt)).setCell ⟨gg, (i + 1) * 6 + 3, none⟩ (.string own)).setCell ⟨gg, (i + 1) * 6 + 4, none⟩ (.int .i64 (T + 1))).setCell ⟨gg, (i + 1) * 6 + 5, none⟩ (.int .i64 (N + span))) (Value.slice (some ⟨gg, 0, none⟩) (n + 1) c12).ownBlock := (World.grownBy.trans (World.grownBy.trans (World.grownBy.trans (World.grownBy.trans (World.grownBy.trans (World.grownBy.trans (World.grownBy.refl _ _) (grown_cellG _ gg ((i + 1) * 6) _)) (grown_cellG _ gg ((i + 1) * 6 + 1) _)) (grown_cellG _ gg ((i + 1) * 6 + 2) _)) (grown_cellG _ gg ((i + 1) * 6 + 3) _)) (grown_cellG _ gg ((i + 1) * 6 + 4) _)) (grown_cellG _ gg ((i + 1) * 6 + 5) _))
        have OY : Hid (OwnG KLs 35 ((((((w2.setCell ⟨gg, (i + 1) * 6, none⟩ (.bool ad.s)).setCell ⟨gg, (i + 1) * 6 + 1, none⟩ (.int .i64 ad.H.toInt)).setCell ⟨gg, (i + 1) * 6 + 2, none⟩ (.int .i64 ad.L.toInt)).setCell ⟨gg, (i + 1) * 6 + 3, none⟩ (.string own)).setCell ⟨gg, (i + 1) * 6 + 4, none⟩ (.int .i64 (T + 1))).setCell ⟨gg, (i + 1) * 6 + 5, none⟩ (.int .i64 (N + span))) W3.heap.size (.slice (some ⟨gg, 0, none⟩) (n + 1) c12) (ls.take (i + 1) ++ [(⟨ad, own, T + 1, N + span⟩ : Ls)] ++ ls.drop (i + 1))) := HPu
        generalize ((((((w2.setCell ⟨gg, (i + 1) * 6, none⟩ (.bool ad.s)).setCell ⟨gg, (i + 1) * 6 + 1, none⟩ (.int .i64 ad.H.toInt)).setCell ⟨gg, (i + 1) * 6 + 2, none⟩ (.int .i64 ad.L.toInt)).setCell ⟨gg, (i + 1) * 6 + 3, none⟩ (.string own)).setCell ⟨gg, (i + 1) * 6 + 4, none⟩ (.int .i64 (T + 1))).setCell ⟨gg, (i + 1) * 6 + 5, none⟩ (.int .i64 (N + span))) = Y at *
        clear HPu x0 x1 x2 x3 x4 x5 f0 f1 f2 f3 f4 f5 hgL
        have nebk : ∀ k, (Value.slice (some ⟨gg, 0, none⟩) (n + 1) c12).ownBlock = some k → k ≠ w.heap.size := NEbk.out
        have bk0_Y := cell_grown hgY bk0_w2 nebk
        have bk1_Y := cell_grown hgY bk1_w2 nebk
        have bk2_Y := cell_grown hgY bk2_w2 nebk
        have bkF_Y : ∀ o, Y.frozen? ⟨w.heap.size, o, none⟩ = false := fun o => frz_grownZ hgY bkL_w2 (bkF_w2 o) nebk
        have bkL_Y : w.heap.size < Y.heap.size := Nat.lt_of_lt_of_le bkL_w2 hgY.size
        have neat : ∀ k, (Value.slice (some ⟨gg, 0, none⟩) (n + 1) c12).ownBlock = some k → k ≠ w.heap.size + 1 := NEat.out
        have at0_Y := cell_grown hgY at0_w2 neat
        have at1_Y := cell_grown hgY at1_w2 neat
        have at2_Y := cell_grown hgY at2_w2 neat
        have atF_Y : ∀ o, Y.frozen? ⟨w.heap.size + 1, o, none⟩ = false := fun o => frz_grownZ hgY atL_w2 (atF_w2 o) neat
        have atL_Y : w.heap.size + 1 < Y.heap.size := Nat.lt_of_lt_of_le atL_w2 hgY.size
        have ners : ∀ k, (Value.slice (some ⟨gg, 0, none⟩) (n + 1) c12).ownBlock = some k → k ≠ w.heap.size + 1 + 1 := NErs.out
        have rs0_Y := cell_grown hgY rs0_w2 ners
        have rs1_Y := cell_grown hgY rs1_w2 ners
        have rs2_Y := cell_grown hgY rs2_w2 ners
        have rsF_Y : ∀ o, Y.frozen? ⟨w.heap.size + 1 + 1, o, none⟩ = false := fun o => frz_grownZ hgY rsL_w2 (rsF_w2 o) ners
        have rsL_Y : w.heap.size + 1 + 1 < Y.heap.size := Nat.lt_of_lt_of_le rsL_w2 hgY.size
        have neou : ∀ k, (Value.slice (some ⟨gg, 0, none⟩) (n + 1) c12).ownBlock = some k → k ≠ w4.heap.size := NEou.out
        have ou0_Y := cell_grown hgY ou0_w2 neou
        have ou1_Y := cell_grown hgY ou1_w2 neou
        have ou2_Y := cell_grown hgY ou2_w2 neou
        have ouF_Y : ∀ o, Y.frozen? ⟨w4.heap.size, o, none⟩ = false := fun o => frz_grownZ hgY ouL_w2 (ouF_w2 o) neou
        have ouL_Y : w4.heap.size < Y.heap.size := Nat.lt_of_lt_of_le ouL_w2 hgY.size
        have nenw : ∀ k, (Value.slice (some ⟨gg, 0, none⟩) (n + 1) c12).ownBlock = some k → k ≠ w8.heap.size := NEnw.out
        have nw0_Y := cell_grown hgY nw0_w2 nenw
        have nw1_Y := cell_grown hgY nw1_w2 nenw
        have nw2_Y := cell_grown hgY nw2_w2 nenw
        have nw3_Y := cell_grown hgY nw3_w2 nenw
        have nw4_Y := cell_grown hgY nw4_w2 nenw
        have nw5_Y := cell_grown hgY nw5_w2 nenw
        have nwF_Y : ∀ o, Y.frozen? ⟨w8.heap.size, o, none⟩ = false := fun o => frz_grownZ hgY nwL_w2 (nwF_w2 o) nenw
        have nwL_Y : w8.heap.size < Y.heap.size := Nat.lt_of_lt_of_le nwL_w2 hgY.size
        have oL_Y := hidP (OY.out)
        have acc_Y := hidP (Below.grown acc_w2.out hgY acc_w2.out.size (fun k hk => by have h5 := lhL.out k hk; have := as_W1.out; have := sz_W1.out; have := as_W2.out; have := sz_W2.out; have := as_W3.out; have := sz_W3.out; have := sz_w4.out; have := as_W5.out; have := sz_W5.out; have := sz_w6.out; have := sz_w7.out; have := sz_w8.out; have := sz_W9.out; have := as_W10.out; have := sz_W10.out; have := as_W11.out; have := sz_W11.out; have := sz_w12.out; have := sz_V.out; have := sz_wr.out; have := sz_w2.out; omega))
        have sz_Y : Hid (w2.heap.size ≤ Y.heap.size) := hidP hgY.size
        clear hgY bk0_w2 bk1_w2 bk2_w2 bkF_w2 bkL_w2 nebk at0_w2 at1_w2 at2_w2 atF_w2 atL_w2 neat rs0_w2 rs1_w2 rs2_w2 rsF_w2 rsL_w2 ners ou0_w2 ou1_w2 ou2_w2 ouF_w2 ouL_w2 neou nw0_w2 nw1_w2 nw2_w2 nw3_w2 nw4_w2 nw5_w2 nwF_w2 nwL_w2 nenw oL_w2 acc_w2
        clear OY
        as_aux_lemma =>
          go_region
          all_goals go_wp2_with fail
          have hmI := HMI.out
          clear HMI
          subst hmI
          refine bodyPost_ret (v := .tuple #[.agg #[.slice (some ⟨gg, 0, none⟩) (n + 1) c12, .int .i64 (T + 1), .int .i64 N], .int .i64 (T + 1), .int .i64 0]) (by simp [results, Tryz.results8, go_sem, rs0_Y, rs1_Y, rs2_Y]) rfl ⟨_, _, rfl, ?_, ?_⟩
          · refine OwnG.mono (B := W3.heap.size) ?_ (by have := as_W1.out; have := sz_W1.out; have := as_W2.out; have := sz_W2.out; have := as_W3.out; have := sz_W3.out; have := sz_w4.out; have := as_W5.out; have := sz_W5.out; have := sz_w6.out; have := sz_w7.out; have := sz_w8.out; have := sz_W9.out; have := as_W10.out; have := sz_W10.out; have := as_W11.out; have := sz_W11.out; have := sz_w12.out; have := sz_V.out; have := sz_wr.out; have := sz_w2.out; have := sz_Y.out; omega)
            refine OwnG.drewG ?_
            iterate 3 (with_reducible refine OwnG.grown ?_ (grown_cellG _ _ _ _) ?_; rotate_left; (focus (exact OwnG.ne_of oL_Y.out (by have := as_W1.out; have := sz_W1.out; have := as_W2.out; have := sz_W2.out; have := as_W3.out; have := sz_W3.out; have := sz_w4.out; have := as_W5.out; have := sz_W5.out; have := sz_w6.out; have := sz_w7.out; have := sz_w8.out; have := sz_W9.out; have := as_W10.out; have := sz_W10.out; have := as_W11.out; have := sz_W11.out; have := sz_w12.out; have := sz_V.out; have := sz_wr.out; have := sz_w2.out; have := sz_Y.out; omega))))
            with_reducible exact oL_Y.out
          · refine Below.drew ?_; repeat (with_reducible refine Below.setCell ?_ ?_ _; rotate_left; (focus (first | (simp; done) | (simp; omega))))
            exact acc_Y.out
      · have dcp : decide (0 < cmpW (keyN q.a.s q.a.H q.a.L : Int) (keyN ad.s ad.H ad.L : Int)) = true := by rw [cmpW_gt]; exact decide_eq_true (by have h1 : q.a.key = keyN q.a.s q.a.H q.a.L := rfl; have h2 : ad.key = keyN ad.s ad.H ad.L := rfl; omega)
        have HLt := hidP hlt
        have HNe := hidP hne
        clear hlt hne
        go_wp2_with fail
        have HSx : Hid (∀ x, Below wr.heap.size wr x → (x.cell? ⟨w4.heap.size, 0, none⟩ = some (.slice (some ⟨gg, 0, none⟩) (n + 1) c12) ∧ x.cell? ⟨gg, i * 6, none⟩ = some (.bool q.a.s) ∧ x.cell? ⟨gg, i * 6 + 1, none⟩ = some (.int .i64 q.a.H.toInt) ∧ x.cell? ⟨gg, i * 6 + 2, none⟩ = some (.int .i64 q.a.L.toInt) ∧ x.cell? ⟨w.heap.size + 1, 0, none⟩ = some (.bool ad.s) ∧ x.cell? ⟨w.heap.size + 1, 1, none⟩ = some (.int .i64 ad.H.toInt) ∧ x.cell? ⟨w.heap.size + 1, 2, none⟩ = some (.int .i64 ad.L.toInt) ∧ Below wr.heap.size wr x)) := hidP fun x h =>
          ⟨(h.cell ouL_wr).trans ou0_wr, (h.cell hgL).trans c0, (h.cell hgL).trans c1, (h.cell hgL).trans c2, (h.cell atL_wr).trans at0_wr, (h.cell atL_wr).trans at1_wr, (h.cell atL_wr).trans at2_wr, h⟩
        refine wp_region_held_drew (S := (fun x => x.cell? ⟨w4.heap.size, 0, none⟩ = some (.slice (some ⟨gg, 0, none⟩) (n + 1) c12) ∧ x.cell? ⟨gg, i * 6, none⟩ = some (.bool q.a.s) ∧ x.cell? ⟨gg, i * 6 + 1, none⟩ = some (.int .i64 q.a.H.toInt) ∧ x.cell? ⟨gg, i * 6 + 2, none⟩ = some (.int .i64 q.a.L.toInt) ∧ x.cell? ⟨w.heap.size + 1, 0, none⟩ = some (.bool ad.s) ∧ x.cell? ⟨w.heap.size + 1, 1, none⟩ = some (.int .i64 ad.H.toInt) ∧ x.cell? ⟨w.heap.size + 1, 2, none⟩ = some (.int .i64 ad.L.toInt) ∧ Below wr.heap.size wr x)) (by kernel_rfl) ?_ (fun hHeld => ?_)
        · try dsimp only
          exact HSx.out _ ((Below.refl _ _).drew)
        refine tkA 0 82 (v := ?_) rfl (by kernel_rfl) (fun _ _ _ h => h) (by rfl) ?_ (by assumption) ?_; rotate_left; · (intro w hSw; (try dsimp only at hSw); go_simp; try with_reducible rfl)
        simp only [Act.put, List.setIfInBounds_toArray, List.set_cons_zero, List.set_cons_succ]
        refine tkA 1 83 (v := ?_) rfl (by kernel_rfl) (fun _ _ _ h => h) (by rfl) ?_ (by assumption) ?_; rotate_left; · (intro w hSw; (try dsimp only at hSw); go_simp; try with_reducible rfl)
        simp only [Act.put, List.setIfInBounds_toArray, List.set_cons_zero, List.set_cons_succ]
        refine tkA 2 84 (v := ?_) rfl (by kernel_rfl) (fun _ _ _ h => h) (by rfl) ?_ (by assumption) ?_; rotate_left; · (intro w hSw; (try dsimp only at hSw); go_simp; try with_reducible rfl)
        simp only [Act.put, List.setIfInBounds_toArray, List.set_cons_zero, List.set_cons_succ]
        refine tkA 3 85 (v := ?_) rfl (by kernel_rfl) (fun _ _ _ h => h) (by rfl) ?_ (by assumption) ?_; rotate_left; · (intro w hSw; (try dsimp only at hSw); go_simp; try with_reducible rfl)
        simp only [Act.put, List.setIfInBounds_toArray, List.set_cons_zero, List.set_cons_succ]
        refine tkA 4 86 (v := ?_) rfl (by kernel_rfl) (fun _ _ _ h => h) (by rfl) ?_ (by assumption) ?_; rotate_left; · (intro w hSw; (try dsimp only at hSw); go_simp; try with_reducible rfl)
        simp only [Act.put, List.setIfInBounds_toArray, List.set_cons_zero, List.set_cons_succ]
        refine tkA 5 87 (v := ?_) rfl (by kernel_rfl) (fun _ _ _ h => h) (by rfl) ?_ (by assumption) ?_; rotate_left; · (intro w hSw; (try dsimp only at hSw); go_simp; try with_reducible rfl)
        simp only [Act.put, List.setIfInBounds_toArray, List.set_cons_zero, List.set_cons_succ]
        refine tkA 6 88 (v := ?_) rfl (by kernel_rfl) (fun _ _ _ h => h) (by rfl) ?_ (by assumption) ?_; rotate_left; · (intro w hSw; (try dsimp only at hSw); go_simp; try with_reducible rfl)
        simp only [Act.put, List.setIfInBounds_toArray, List.set_cons_zero, List.set_cons_succ]
        refine tkA 7 89 (v := ?_) rfl (by kernel_rfl) (fun _ _ _ h => h) (by rfl) ?_ (by assumption) ?_; rotate_left; · (intro w hSw; (try dsimp only at hSw); go_simp; try with_reducible rfl)
        simp only [Act.put, List.setIfInBounds_toArray, List.set_cons_zero, List.set_cons_succ]
        refine tkA 8 90 (v := ?_) rfl (by kernel_rfl) (fun _ _ _ h => h) (by rfl) ?_ (by assumption) ?_; rotate_left; · (intro w hSw; (try dsimp only at hSw); go_simp; try with_reducible rfl)
        simp only [Act.put, List.setIfInBounds_toArray, List.set_cons_zero, List.set_cons_succ]
        refine tkA 9 91 (v := ?_) rfl (by kernel_rfl) (fun _ _ _ h => h) (by rfl) ?_ (by assumption) ?_; rotate_left; · (intro w hSw; (try dsimp only at hSw); go_simp; try with_reducible rfl)
        simp only [Act.put, List.setIfInBounds_toArray, List.set_cons_zero, List.set_cons_succ]
        refine tkA 10 92 (v := ?_) rfl (by kernel_rfl) (fun _ _ _ h => h) (by rfl) ?_ (by assumption) ?_; rotate_left; · (intro w hSw; (try dsimp only at hSw); go_simp; try with_reducible rfl)
        simp only [Act.put, List.setIfInBounds_toArray, List.set_cons_zero, List.set_cons_succ]
        refine wpAnyH_ready (rs := [11]) (by kernel_rfl) (by simp) ?_
        refine AllReadyH.cons rfl (fun K hK => ?_) AllReadyH.nil
        go_simp
        go_wp2_with (first | (go_at_call 33; refine (HCq.out _).mono ?_; rintro e w2 ⟨rfl, hb2⟩; have b2 := (hHeld.2.2.2.2.2.2.2).trans (hb2.mono (hHeld.2.2.2.2.2.2.2).size)))
        refine hK.out _ _ ?_ (fun hHeld => ?_)
        · try dsimp only
          exact HSx.out _ b2
        clear hK K
        refine tkA 12 94 (v := ?_) rfl (by kernel_rfl) (fun _ _ _ h => h) (by rfl) ?_ (by assumption) ?_; rotate_left; · (intro w hSw; (try dsimp only at hSw); go_simp; try with_reducible rfl)
        simp only [Act.put, List.setIfInBounds_toArray, List.set_cons_zero, List.set_cons_succ]
        refine tkA 13 95 (v := ?_) rfl (by kernel_rfl) (fun _ _ _ h => h) (by rfl) ?_ (by assumption) ?_; rotate_left; · (intro w hSw; (try dsimp only at hSw); go_simp; try with_reducible rfl)
        simp only [Act.put, List.setIfInBounds_toArray, List.set_cons_zero, List.set_cons_succ]
        have HE := hidP (hHeld.2.2.2.2.2.2.2)
        refine wpAnyH_done (by kernel_rfl) ?_ _
        clear hHeld
        have hbE : Below wr.heap.size wr w2 := HE.out
        have HBE := hidP hbE
        clear HE HSx c0 c1 c2 c3' c4 c5 hgL
        have bk0_w2 := (hbE.cell bkL_wr).trans bk0_wr
        have bk1_w2 := (hbE.cell bkL_wr).trans bk1_wr
        have bk2_w2 := (hbE.cell bkL_wr).trans bk2_wr
        have bkF_w2 : ∀ o, w2.frozen? ⟨w.heap.size, o, none⟩ = false := fun o => (hbE.frozen bkL_wr).trans (bkF_wr o)
        have bkL_w2 : w.heap.size < w2.heap.size := Nat.lt_of_lt_of_le bkL_wr hbE.size
        have at0_w2 := (hbE.cell atL_wr).trans at0_wr
        have at1_w2 := (hbE.cell atL_wr).trans at1_wr
        have at2_w2 := (hbE.cell atL_wr).trans at2_wr
        have atF_w2 : ∀ o, w2.frozen? ⟨w.heap.size + 1, o, none⟩ = false := fun o => (hbE.frozen atL_wr).trans (atF_wr o)
        have atL_w2 : w.heap.size + 1 < w2.heap.size := Nat.lt_of_lt_of_le atL_wr hbE.size
        have rs0_w2 := (hbE.cell rsL_wr).trans rs0_wr
        have rs1_w2 := (hbE.cell rsL_wr).trans rs1_wr
        have rs2_w2 := (hbE.cell rsL_wr).trans rs2_wr
        have rsF_w2 : ∀ o, w2.frozen? ⟨w.heap.size + 1 + 1, o, none⟩ = false := fun o => (hbE.frozen rsL_wr).trans (rsF_wr o)
        have rsL_w2 : w.heap.size + 1 + 1 < w2.heap.size := Nat.lt_of_lt_of_le rsL_wr hbE.size
        have ou0_w2 := (hbE.cell ouL_wr).trans ou0_wr
        have ou1_w2 := (hbE.cell ouL_wr).trans ou1_wr
        have ou2_w2 := (hbE.cell ouL_wr).trans ou2_wr
        have ouF_w2 : ∀ o, w2.frozen? ⟨w4.heap.size, o, none⟩ = false := fun o => (hbE.frozen ouL_wr).trans (ouF_wr o)
        have ouL_w2 : w4.heap.size < w2.heap.size := Nat.lt_of_lt_of_le ouL_wr hbE.size
        have nw0_w2 := (hbE.cell nwL_wr).trans nw0_wr
        have nw1_w2 := (hbE.cell nwL_wr).trans nw1_wr
        have nw2_w2 := (hbE.cell nwL_wr).trans nw2_wr
        have nw3_w2 := (hbE.cell nwL_wr).trans nw3_wr
        have nw4_w2 := (hbE.cell nwL_wr).trans nw4_wr
        have nw5_w2 := (hbE.cell nwL_wr).trans nw5_wr
        have nwF_w2 : ∀ o, w2.frozen? ⟨w8.heap.size, o, none⟩ = false := fun o => (hbE.frozen nwL_wr).trans (nwF_wr o)
        have nwL_w2 : w8.heap.size < w2.heap.size := Nat.lt_of_lt_of_le nwL_wr hbE.size
        have oL_w2 := hidP (OwnG.later oL_wr.out hbE)
        have acc_w2 := hidP (acc_wr.out.trans (hbE.mono acc_wr.out.size))
        have sz_w2 : Hid (wr.heap.size ≤ w2.heap.size) := hidP hbE.size
        clear hbE bk0_wr bk1_wr bk2_wr bkF_wr bkL_wr at0_wr at1_wr at2_wr atF_wr atL_wr rs0_wr rs1_wr rs2_wr rsF_wr rsL_wr ou0_wr ou1_wr ou2_wr ouF_wr ouL_wr nw0_wr nw1_wr nw2_wr nw3_wr nw4_wr nw5_wr nwF_wr nwL_wr oL_wr acc_wr
        obtain ⟨q', hgL, hq', c0, c1, c2, c3', c4, c5⟩ := rowLs0 oL_w2.out i (by rw [← HLn.out]; omega)
        have hqq : q' = q := by rw [lm_at ls _ i (by have := HN.out; omega), HQ.out] at hq'; cases hq'; rfl
        subst hqq
        obtain ⟨q2, hgL2, hq2, x0, x1, x2, x3, x4, x5⟩ := rowLs0 oL_w2.out (i + 1) (by rw [← HLn.out]; omega)
        obtain ⟨f0, f1, f2, f3, f4, f5⟩ := frzLs oL_w2.out (i + 1)
        have HPu := hidP (putLs oL_w2.out HLn.out (i + 1) (by omega) q')
        rw [set_mvL ls _ q' i HQ.out] at HPu
        have HG2 := hidP (HGr.out.trans (grown_of' (show Below wr.heap.size wr w2 from HBE.out) (some gg)))
        clear hq' hq2
        go_wp2_with fail
        go_region
        all_goals
          go_wp2_with fail
          go_roundw
          case rel =>
            refine ⟨i, by go_num, ?_, by omega, HPu.out.drewG, (World.grownBy.trans (World.grownBy.trans (World.grownBy.trans (World.grownBy.trans (World.grownBy.trans (World.grownBy.trans HG2.out (grown_cellG _ gg ((i + 1) * 6) _)) (grown_cellG _ gg ((i + 1) * 6 + 1) _)) (grown_cellG _ gg ((i + 1) * 6 + 2) _)) (grown_cellG _ gg ((i + 1) * 6 + 3) _)) (grown_cellG _ gg ((i + 1) * 6 + 4) _)) (grown_cellG _ gg ((i + 1) * 6 + 5) _)).trans (grown_drew _ _)⟩
            rcases Nat.lt_or_ge i I with h | h
            · have h2 := HLo.out.2.1 i q' h HQ.out; have := HLt.out; omega
            · exact h
          case measure => simp [intOf]

end Go.Proofs.YtddnofonodgneaaGreatDoor
namespace Go.Proofs.YtddnofonodgneaaGreatDoor
open Go.RowKit

def Ad.cs (q : Ad) : List Value := [.bool q.s, .int .i64 q.H.toInt, .int .i64 q.L.toInt]
def KAd : Kd Ad := ⟨3, Ad.cs, fun _ => rfl, fun x u h => by
  simp [Ad.cs] at h
  rcases h with rfl | rfl | rfl <;> rfl⟩
theorem Tryz.tyAd : GTy KAd (.agg #[.bool false, .int .i64 0, .int .i64 0]) 24 Tryz.prog 43 28 := ⟨Tryz.underlying43, by kernel_rfl, rfl, by omega⟩

end Go.Proofs.YtddnofonodgneaaGreatDoor
namespace Go.Proofs.YtddnofonodgneaaGreatDoor
open Go.RowKit

def stayL (now : Int) (ls : List Ls) : List Ls := ls.filter (fun x => decide (now < x.u))
def goneL (now : Int) (ls : List Ls) : List Ad := (ls.filter (fun x => !decide (now < x.u))).map Ls.a
theorem stay_yes {now : Int} {ls : List Ls} {k : Nat} {q : Ls} (h : ls[k]? = some q) (hu : decide (now < q.u) = true) : stayL now (ls.take (k + 1)) = stayL now (ls.take k) ++ [q] ∧ goneL now (ls.take (k + 1)) = goneL now (ls.take k) := by
  unfold stayL goneL
  rw [← take_at h, List.filter_append, List.filter_append]
  simp [hu]
theorem stay_no {now : Int} {ls : List Ls} {k : Nat} {q : Ls} (h : ls[k]? = some q) (hu : decide (now < q.u) = false) : stayL now (ls.take (k + 1)) = stayL now (ls.take k) ∧ goneL now (ls.take (k + 1)) = goneL now (ls.take k) ++ [q.a] := by
  unfold stayL goneL
  rw [← take_at h, List.filter_append, List.filter_append]
  simp [hu]
theorem stay_len (now : Int) (ls : List Ls) : (stayL now ls).length ≤ ls.length ∧ (goneL now ls).length ≤ ls.length := by
  unfold stayL goneL
  exact ⟨List.length_filter_le _ _, by rw [List.length_map]; exact List.length_filter_le _ _⟩
theorem ob_len (a : Option Addr) (n c n' c' : Nat) : (Value.slice a n c).ownBlock = (Value.slice a n' c').ownBlock := by cases a <;> rfl

end Go.Proofs.YtddnofonodgneaaGreatDoor
namespace Go.Proofs.YtddnofonodgneaaGreatDoor
open Go.RowKit

theorem cell_oth {w : World} {b o o' : Nat} {u v : Value} (h : w.cell? ⟨b, o, none⟩ = some u) (hne : o ≠ o') : (w.setCell ⟨b, o', none⟩ v).cell? ⟨b, o, none⟩ = some u := by
  simp [go_sem, h]
set_option maxRecDepth 10000 in
set_option maxHeartbeats 4000000 in
theorem sAdv_no (a : Option Addr) (n c : Nat) (T N : Int) (ls : List Ls) (w : World) (hn : n = ls.length) (hB : RowG KLs w a ls) (hc : a = none → c = 0) (hl : n ≤ 1048576) (hst : ∀ q ∈ ls, q.t.size ≤ 9223372036854775807) (now : Int) (hr : (bkB ls T N && (decide (N < now) && decide (now ≤ 1000000000))) = false) :
    Calls Tryz.prog 57 #[.agg #[.slice a n c, .int .i64 T, .int .i64 N], .int .i64 now] w fun e w' => ∃ a' c' b' d', e = .returned (.tuple #[.agg #[.slice a' n c', .int .i64 T, .int .i64 N], .slice b' 0 d']) ∧ OwnG KLs 35 w' w.heap.size (.slice a' n c') (ls) ∧ OwnG KAd 28 w' w.heap.size (.slice b' 0 d') ([]) ∧ (∀ k, (Value.slice a' n c').ownBlock = some k → (Value.slice b' 0 d').ownBlock ≠ some k) ∧ Below w.heap.size w w' := by
  have HOw := hidP (fun W h => l6Copy_any a n c T N ls W hn (hB.later h) hc hl)
  have HSp := hidP (fun W h => sBookOk_any a n c T N ls W hn (hB.later h) hl hst)
  have HN := hidP hn
  have HR := hidP hB
  clear hB hn hst hc
  cases hb : bkB ls T N
  · rw [hb] at HSp
    clear hr
    go_enter Tryz.func57, Tryz.ntmps57
    go_wp2_with fail
    obtain ⟨bk0_W1, bk1_W1, bk2_W1⟩ := box3B w 26 (.slice a n c) (.int .i64 T) (.int .i64 N)
    have bkF_W1 : ∀ o, (w.alloc (.cells #[.slice a n c, .int .i64 T, .int .i64 N] 26)).frozen? ⟨w.heap.size, o, none⟩ = false := fun o => by simp [go_sem]
    have bkL_W1 : w.heap.size < (w.alloc (.cells #[.slice a n c, .int .i64 T, .int .i64 N] 26)).heap.size := by simp
    have ab_W1 := alloc_below w (.cells #[.slice a n c, .int .i64 T, .int .i64 N] 26)
    have as_W1 : Hid ((w.alloc (.cells #[.slice a n c, .int .i64 T, .int .i64 N] 26)).heap.size = w.heap.size + 1) := hidP (by simp)
    generalize w.alloc (.cells #[.slice a n c, .int .i64 T, .int .i64 N] 26) = W1 at *
    have acc_W1 := hidP (ab_W1)
    have sz_W1 : Hid (w.heap.size ≤ W1.heap.size) := hidP ab_W1.size
    clear ab_W1 
    obtain ⟨rs0_W2, rs1_W2, rs2_W2⟩ := box3B W1 26 (.slice none 0 0) (.int .i64 0) (.int .i64 0)
    have rsF_W2 : ∀ o, (W1.alloc (.cells #[.slice none 0 0, .int .i64 0, .int .i64 0] 26)).frozen? ⟨W1.heap.size, o, none⟩ = false := fun o => by simp [go_sem]
    have rsL_W2 : W1.heap.size < (W1.alloc (.cells #[.slice none 0 0, .int .i64 0, .int .i64 0] 26)).heap.size := by simp
    have ab_W2 := alloc_below W1 (.cells #[.slice none 0 0, .int .i64 0, .int .i64 0] 26)
    have as_W2 : Hid ((W1.alloc (.cells #[.slice none 0 0, .int .i64 0, .int .i64 0] 26)).heap.size = W1.heap.size + 1) := hidP (by simp)
    generalize W1.alloc (.cells #[.slice none 0 0, .int .i64 0, .int .i64 0] 26) = W2 at *
    have bk0_W2 := (ab_W2.cell bkL_W1).trans bk0_W1
    have bk1_W2 := (ab_W2.cell bkL_W1).trans bk1_W1
    have bk2_W2 := (ab_W2.cell bkL_W1).trans bk2_W1
    have bkF_W2 : ∀ o, W2.frozen? ⟨w.heap.size, o, none⟩ = false := fun o => (ab_W2.frozen bkL_W1).trans (bkF_W1 o)
    have bkL_W2 : w.heap.size < W2.heap.size := Nat.lt_of_lt_of_le bkL_W1 ab_W2.size
    have acc_W2 := hidP (acc_W1.out.trans (ab_W2.mono acc_W1.out.size))
    have sz_W2 : Hid (W1.heap.size ≤ W2.heap.size) := hidP ab_W2.size
    clear ab_W2 bk0_W1 bk1_W1 bk2_W1 bkF_W1 bkL_W1 acc_W1
    have eW1 := as_W1.out
    rw [eW1] at rs0_W2 rs1_W2 rs2_W2 rsL_W2
    have rsF_W2' : ∀ o, W2.frozen? ⟨w.heap.size + 1, o, none⟩ = false := fun o => by have := rsF_W2 o; rw [eW1] at this; exact this
    clear rsF_W2 eW1
    have rsF_W2 := rsF_W2'
    clear rsF_W2'
    refine (HOw.out _ acc_W2.out).mono ?_
    rintro e w3 ⟨a3, c3, rfl, og3, hb3⟩
    have lo3 := hidP (fun k hk => OwnG.lt og3 k hk)
    have og3' := hidP og3
    clear og3
    have bk0_w3 := (hb3.cell bkL_W2).trans bk0_W2
    have bk1_w3 := (hb3.cell bkL_W2).trans bk1_W2
    have bk2_w3 := (hb3.cell bkL_W2).trans bk2_W2
    have bkF_w3 : ∀ o, w3.frozen? ⟨w.heap.size, o, none⟩ = false := fun o => (hb3.frozen bkL_W2).trans (bkF_W2 o)
    have bkL_w3 : w.heap.size < w3.heap.size := Nat.lt_of_lt_of_le bkL_W2 hb3.size
    have rs0_w3 := (hb3.cell rsL_W2).trans rs0_W2
    have rs1_w3 := (hb3.cell rsL_W2).trans rs1_W2
    have rs2_w3 := (hb3.cell rsL_W2).trans rs2_W2
    have rsF_w3 : ∀ o, w3.frozen? ⟨w.heap.size + 1, o, none⟩ = false := fun o => (hb3.frozen rsL_W2).trans (rsF_W2 o)
    have rsL_w3 : w.heap.size + 1 < w3.heap.size := Nat.lt_of_lt_of_le rsL_W2 hb3.size
    have acc_w3 := hidP (acc_W2.out.trans (hb3.mono acc_W2.out.size))
    have sz_w3 : Hid (W2.heap.size ≤ w3.heap.size) := hidP hb3.size
    clear hb3 bk0_W2 bk1_W2 bk2_W2 bkF_W2 bkL_W2 rs0_W2 rs1_W2 rs2_W2 rsF_W2 rsL_W2 acc_W2
    have oL_w3 := hidP (og3'.out)
    go_wp2_with fail
    obtain ⟨ou0_W4, ou1_W4, ou2_W4⟩ := box3B w3 26 (.slice a3 n c3) (.int .i64 T) (.int .i64 N)
    have ouF_W4 : ∀ o, (w3.alloc (.cells #[.slice a3 n c3, .int .i64 T, .int .i64 N] 26)).frozen? ⟨w3.heap.size, o, none⟩ = false := fun o => by simp [go_sem]
    have ouL_W4 : w3.heap.size < (w3.alloc (.cells #[.slice a3 n c3, .int .i64 T, .int .i64 N] 26)).heap.size := by simp
    have ab_W4 := alloc_below w3 (.cells #[.slice a3 n c3, .int .i64 T, .int .i64 N] 26)
    have as_W4 : Hid ((w3.alloc (.cells #[.slice a3 n c3, .int .i64 T, .int .i64 N] 26)).heap.size = w3.heap.size + 1) := hidP (by simp)
    generalize w3.alloc (.cells #[.slice a3 n c3, .int .i64 T, .int .i64 N] 26) = W4 at *
    have bk0_W4 := (ab_W4.cell bkL_w3).trans bk0_w3
    have bk1_W4 := (ab_W4.cell bkL_w3).trans bk1_w3
    have bk2_W4 := (ab_W4.cell bkL_w3).trans bk2_w3
    have bkF_W4 : ∀ o, W4.frozen? ⟨w.heap.size, o, none⟩ = false := fun o => (ab_W4.frozen bkL_w3).trans (bkF_w3 o)
    have bkL_W4 : w.heap.size < W4.heap.size := Nat.lt_of_lt_of_le bkL_w3 ab_W4.size
    have rs0_W4 := (ab_W4.cell rsL_w3).trans rs0_w3
    have rs1_W4 := (ab_W4.cell rsL_w3).trans rs1_w3
    have rs2_W4 := (ab_W4.cell rsL_w3).trans rs2_w3
    have rsF_W4 : ∀ o, W4.frozen? ⟨w.heap.size + 1, o, none⟩ = false := fun o => (ab_W4.frozen rsL_w3).trans (rsF_w3 o)
    have rsL_W4 : w.heap.size + 1 < W4.heap.size := Nat.lt_of_lt_of_le rsL_w3 ab_W4.size
    have oL_W4 := hidP (OwnG.later oL_w3.out ab_W4)
    have acc_W4 := hidP (acc_w3.out.trans (ab_W4.mono acc_w3.out.size))
    have sz_W4 : Hid (w3.heap.size ≤ W4.heap.size) := hidP ab_W4.size
    clear ab_W4 bk0_w3 bk1_w3 bk2_w3 bkF_w3 bkL_w3 rs0_w3 rs1_w3 rs2_w3 rsF_w3 rsL_w3 oL_w3 acc_w3
    have zG := own_zeroG KAd W4 W4.heap.size 28 (Nat.le_refl _)
    rw [as_W4.out] at zG
    have ab5 := alloc_below W4 (.cells #[] 28)
    have as5 : Hid ((W4.alloc (.cells #[] 28)).heap.size = W4.heap.size + 1) := hidP (by simp)
    generalize W4.alloc (.cells #[] 28) = W5 at *
    have bk0_W5 := (ab5.cell bkL_W4).trans bk0_W4
    have bk1_W5 := (ab5.cell bkL_W4).trans bk1_W4
    have bk2_W5 := (ab5.cell bkL_W4).trans bk2_W4
    have bkF_W5 : ∀ o, W5.frozen? ⟨w.heap.size, o, none⟩ = false := fun o => (ab5.frozen bkL_W4).trans (bkF_W4 o)
    have bkL_W5 : w.heap.size < W5.heap.size := Nat.lt_of_lt_of_le bkL_W4 ab5.size
    have rs0_W5 := (ab5.cell rsL_W4).trans rs0_W4
    have rs1_W5 := (ab5.cell rsL_W4).trans rs1_W4
    have rs2_W5 := (ab5.cell rsL_W4).trans rs2_W4
    have rsF_W5 : ∀ o, W5.frozen? ⟨w.heap.size + 1, o, none⟩ = false := fun o => (ab5.frozen rsL_W4).trans (rsF_W4 o)
    have rsL_W5 : w.heap.size + 1 < W5.heap.size := Nat.lt_of_lt_of_le rsL_W4 ab5.size
    have ou0_W5 := (ab5.cell ouL_W4).trans ou0_W4
    have ou1_W5 := (ab5.cell ouL_W4).trans ou1_W4
    have ou2_W5 := (ab5.cell ouL_W4).trans ou2_W4
    have ouF_W5 : ∀ o, W5.frozen? ⟨w3.heap.size, o, none⟩ = false := fun o => (ab5.frozen ouL_W4).trans (ouF_W4 o)
    have ouL_W5 : w3.heap.size < W5.heap.size := Nat.lt_of_lt_of_le ouL_W4 ab5.size
    have oL_W5 := hidP (OwnG.later oL_W4.out ab5)
    have acc_W5 := hidP (acc_W4.out.trans (ab5.mono acc_W4.out.size))
    have sz_W5 : Hid (W4.heap.size ≤ W5.heap.size) := hidP ab5.size
    clear ab5 bk0_W4 bk1_W4 bk2_W4 bkF_W4 bkL_W4 rs0_W4 rs1_W4 rs2_W4 rsF_W4 rsL_W4 ou0_W4 ou1_W4 ou2_W4 ouF_W4 ouL_W4 oL_W4 acc_W4
    have oG_W5 := hidP (zG)
    clear zG
    refine (HSp.out _ acc_W5.out).mono ?_
    rintro e w6 ⟨rfl, hb6⟩
    have bk0_w6 := (hb6.cell bkL_W5).trans bk0_W5
    have bk1_w6 := (hb6.cell bkL_W5).trans bk1_W5
    have bk2_w6 := (hb6.cell bkL_W5).trans bk2_W5
    have bkF_w6 : ∀ o, w6.frozen? ⟨w.heap.size, o, none⟩ = false := fun o => (hb6.frozen bkL_W5).trans (bkF_W5 o)
    have bkL_w6 : w.heap.size < w6.heap.size := Nat.lt_of_lt_of_le bkL_W5 hb6.size
    have rs0_w6 := (hb6.cell rsL_W5).trans rs0_W5
    have rs1_w6 := (hb6.cell rsL_W5).trans rs1_W5
    have rs2_w6 := (hb6.cell rsL_W5).trans rs2_W5
    have rsF_w6 : ∀ o, w6.frozen? ⟨w.heap.size + 1, o, none⟩ = false := fun o => (hb6.frozen rsL_W5).trans (rsF_W5 o)
    have rsL_w6 : w.heap.size + 1 < w6.heap.size := Nat.lt_of_lt_of_le rsL_W5 hb6.size
    have ou0_w6 := (hb6.cell ouL_W5).trans ou0_W5
    have ou1_w6 := (hb6.cell ouL_W5).trans ou1_W5
    have ou2_w6 := (hb6.cell ouL_W5).trans ou2_W5
    have ouF_w6 : ∀ o, w6.frozen? ⟨w3.heap.size, o, none⟩ = false := fun o => (hb6.frozen ouL_W5).trans (ouF_W5 o)
    have ouL_w6 : w3.heap.size < w6.heap.size := Nat.lt_of_lt_of_le ouL_W5 hb6.size
    have oL_w6 := hidP (OwnG.later oL_W5.out hb6)
    have oG_w6 := hidP (OwnG.later oG_W5.out hb6)
    have acc_w6 := hidP (acc_W5.out.trans (hb6.mono acc_W5.out.size))
    have sz_w6 : Hid (W5.heap.size ≤ w6.heap.size) := hidP hb6.size
    clear hb6 bk0_W5 bk1_W5 bk2_W5 bkF_W5 bkL_W5 rs0_W5 rs1_W5 rs2_W5 rsF_W5 rsL_W5 ou0_W5 ou1_W5 ou2_W5 ouF_W5 ouL_W5 oL_W5 oG_W5 acc_W5
    go_wp2_with fail
    refine bodyPost_ret (v := .tuple #[.agg #[.slice a3 n c3, .int .i64 T, .int .i64 N], .slice (some ⟨w3.heap.size + 1, 0, none⟩) 0 0]) (by simp [results, Tryz.results57, go_sem, rs0_w6, rs1_w6, rs2_w6]) rfl ⟨_, _, _, _, rfl, ?_, ?_, ?_, ?_⟩
    · refine OwnG.mono (B := W2.heap.size) ?_ (by have := as_W1.out; have := sz_W1.out; have := as_W2.out; have := sz_W2.out; have := sz_w3.out; have := as_W4.out; have := sz_W4.out; have := as5.out; have := sz_W5.out; have := sz_w6.out; omega)
      iterate 3 (with_reducible refine OwnG.grown ?_ (grown_cellG _ _ _ _) ?_; rotate_left; (focus (exact OwnG.ne_of oL_w6.out (by have := as_W1.out; have := sz_W1.out; have := as_W2.out; have := sz_W2.out; have := sz_w3.out; have := as_W4.out; have := sz_W4.out; have := as5.out; have := sz_W5.out; have := sz_w6.out; omega))))
      with_reducible exact oL_w6.out
    · refine OwnG.mono (B := w3.heap.size + 1) ?_ (by have := as_W1.out; have := sz_W1.out; have := as_W2.out; have := sz_W2.out; have := sz_w3.out; have := as_W4.out; have := sz_W4.out; have := as5.out; have := sz_W5.out; have := sz_w6.out; omega)
      iterate 3 (with_reducible refine OwnG.grown ?_ (grown_cellG _ _ _ _) ?_; rotate_left; (focus (exact OwnG.ne_of oG_w6.out (by have := as_W1.out; have := sz_W1.out; have := as_W2.out; have := sz_W2.out; have := sz_w3.out; have := as_W4.out; have := sz_W4.out; have := as5.out; have := sz_W5.out; have := sz_w6.out; omega))))
      with_reducible exact oG_w6.out
    · intro k h1 h2
      have h3 := (lo3.out k h1).2
      rw [ob_some, Option.some.injEq] at h2
      omega
    · repeat (with_reducible refine Below.setCell ?_ ?_ _; rotate_left; (focus (first | (simp; done) | (simp; omega))))
      exact acc_w6.out
  · rw [hb] at HSp hr
    rw [Bool.true_and] at hr
    cases h1 : decide (now ≤ N)
    · have h2 : decide ((1000000000 : Int) < now) = true := by
        have h1' := of_decide_eq_false h1
        rw [decide_eq_true (by omega : N < now), Bool.true_and] at hr
        have := of_decide_eq_false hr
        exact decide_eq_true (by omega)
      clear hr
      go_enter Tryz.func57, Tryz.ntmps57
      go_wp2_with fail
      obtain ⟨bk0_W1, bk1_W1, bk2_W1⟩ := box3B w 26 (.slice a n c) (.int .i64 T) (.int .i64 N)
      have bkF_W1 : ∀ o, (w.alloc (.cells #[.slice a n c, .int .i64 T, .int .i64 N] 26)).frozen? ⟨w.heap.size, o, none⟩ = false := fun o => by simp [go_sem]
      have bkL_W1 : w.heap.size < (w.alloc (.cells #[.slice a n c, .int .i64 T, .int .i64 N] 26)).heap.size := by simp
      have ab_W1 := alloc_below w (.cells #[.slice a n c, .int .i64 T, .int .i64 N] 26)
      have as_W1 : Hid ((w.alloc (.cells #[.slice a n c, .int .i64 T, .int .i64 N] 26)).heap.size = w.heap.size + 1) := hidP (by simp)
      generalize w.alloc (.cells #[.slice a n c, .int .i64 T, .int .i64 N] 26) = W1 at *
      have acc_W1 := hidP (ab_W1)
      have sz_W1 : Hid (w.heap.size ≤ W1.heap.size) := hidP ab_W1.size
      clear ab_W1 
      obtain ⟨rs0_W2, rs1_W2, rs2_W2⟩ := box3B W1 26 (.slice none 0 0) (.int .i64 0) (.int .i64 0)
      have rsF_W2 : ∀ o, (W1.alloc (.cells #[.slice none 0 0, .int .i64 0, .int .i64 0] 26)).frozen? ⟨W1.heap.size, o, none⟩ = false := fun o => by simp [go_sem]
      have rsL_W2 : W1.heap.size < (W1.alloc (.cells #[.slice none 0 0, .int .i64 0, .int .i64 0] 26)).heap.size := by simp
      have ab_W2 := alloc_below W1 (.cells #[.slice none 0 0, .int .i64 0, .int .i64 0] 26)
      have as_W2 : Hid ((W1.alloc (.cells #[.slice none 0 0, .int .i64 0, .int .i64 0] 26)).heap.size = W1.heap.size + 1) := hidP (by simp)
      generalize W1.alloc (.cells #[.slice none 0 0, .int .i64 0, .int .i64 0] 26) = W2 at *
      have bk0_W2 := (ab_W2.cell bkL_W1).trans bk0_W1
      have bk1_W2 := (ab_W2.cell bkL_W1).trans bk1_W1
      have bk2_W2 := (ab_W2.cell bkL_W1).trans bk2_W1
      have bkF_W2 : ∀ o, W2.frozen? ⟨w.heap.size, o, none⟩ = false := fun o => (ab_W2.frozen bkL_W1).trans (bkF_W1 o)
      have bkL_W2 : w.heap.size < W2.heap.size := Nat.lt_of_lt_of_le bkL_W1 ab_W2.size
      have acc_W2 := hidP (acc_W1.out.trans (ab_W2.mono acc_W1.out.size))
      have sz_W2 : Hid (W1.heap.size ≤ W2.heap.size) := hidP ab_W2.size
      clear ab_W2 bk0_W1 bk1_W1 bk2_W1 bkF_W1 bkL_W1 acc_W1
      have eW1 := as_W1.out
      rw [eW1] at rs0_W2 rs1_W2 rs2_W2 rsL_W2
      have rsF_W2' : ∀ o, W2.frozen? ⟨w.heap.size + 1, o, none⟩ = false := fun o => by have := rsF_W2 o; rw [eW1] at this; exact this
      clear rsF_W2 eW1
      have rsF_W2 := rsF_W2'
      clear rsF_W2'
      refine (HOw.out _ acc_W2.out).mono ?_
      rintro e w3 ⟨a3, c3, rfl, og3, hb3⟩
      have lo3 := hidP (fun k hk => OwnG.lt og3 k hk)
      have og3' := hidP og3
      clear og3
      have bk0_w3 := (hb3.cell bkL_W2).trans bk0_W2
      have bk1_w3 := (hb3.cell bkL_W2).trans bk1_W2
      have bk2_w3 := (hb3.cell bkL_W2).trans bk2_W2
      have bkF_w3 : ∀ o, w3.frozen? ⟨w.heap.size, o, none⟩ = false := fun o => (hb3.frozen bkL_W2).trans (bkF_W2 o)
      have bkL_w3 : w.heap.size < w3.heap.size := Nat.lt_of_lt_of_le bkL_W2 hb3.size
      have rs0_w3 := (hb3.cell rsL_W2).trans rs0_W2
      have rs1_w3 := (hb3.cell rsL_W2).trans rs1_W2
      have rs2_w3 := (hb3.cell rsL_W2).trans rs2_W2
      have rsF_w3 : ∀ o, w3.frozen? ⟨w.heap.size + 1, o, none⟩ = false := fun o => (hb3.frozen rsL_W2).trans (rsF_W2 o)
      have rsL_w3 : w.heap.size + 1 < w3.heap.size := Nat.lt_of_lt_of_le rsL_W2 hb3.size
      have acc_w3 := hidP (acc_W2.out.trans (hb3.mono acc_W2.out.size))
      have sz_w3 : Hid (W2.heap.size ≤ w3.heap.size) := hidP hb3.size
      clear hb3 bk0_W2 bk1_W2 bk2_W2 bkF_W2 bkL_W2 rs0_W2 rs1_W2 rs2_W2 rsF_W2 rsL_W2 acc_W2
      have oL_w3 := hidP (og3'.out)
      go_wp2_with fail
      obtain ⟨ou0_W4, ou1_W4, ou2_W4⟩ := box3B w3 26 (.slice a3 n c3) (.int .i64 T) (.int .i64 N)
      have ouF_W4 : ∀ o, (w3.alloc (.cells #[.slice a3 n c3, .int .i64 T, .int .i64 N] 26)).frozen? ⟨w3.heap.size, o, none⟩ = false := fun o => by simp [go_sem]
      have ouL_W4 : w3.heap.size < (w3.alloc (.cells #[.slice a3 n c3, .int .i64 T, .int .i64 N] 26)).heap.size := by simp
      have ab_W4 := alloc_below w3 (.cells #[.slice a3 n c3, .int .i64 T, .int .i64 N] 26)
      have as_W4 : Hid ((w3.alloc (.cells #[.slice a3 n c3, .int .i64 T, .int .i64 N] 26)).heap.size = w3.heap.size + 1) := hidP (by simp)
      generalize w3.alloc (.cells #[.slice a3 n c3, .int .i64 T, .int .i64 N] 26) = W4 at *
      have bk0_W4 := (ab_W4.cell bkL_w3).trans bk0_w3
      have bk1_W4 := (ab_W4.cell bkL_w3).trans bk1_w3
      have bk2_W4 := (ab_W4.cell bkL_w3).trans bk2_w3
      have bkF_W4 : ∀ o, W4.frozen? ⟨w.heap.size, o, none⟩ = false := fun o => (ab_W4.frozen bkL_w3).trans (bkF_w3 o)
      have bkL_W4 : w.heap.size < W4.heap.size := Nat.lt_of_lt_of_le bkL_w3 ab_W4.size
      have rs0_W4 := (ab_W4.cell rsL_w3).trans rs0_w3
      have rs1_W4 := (ab_W4.cell rsL_w3).trans rs1_w3
      have rs2_W4 := (ab_W4.cell rsL_w3).trans rs2_w3
      have rsF_W4 : ∀ o, W4.frozen? ⟨w.heap.size + 1, o, none⟩ = false := fun o => (ab_W4.frozen rsL_w3).trans (rsF_w3 o)
      have rsL_W4 : w.heap.size + 1 < W4.heap.size := Nat.lt_of_lt_of_le rsL_w3 ab_W4.size
      have oL_W4 := hidP (OwnG.later oL_w3.out ab_W4)
      have acc_W4 := hidP (acc_w3.out.trans (ab_W4.mono acc_w3.out.size))
      have sz_W4 : Hid (w3.heap.size ≤ W4.heap.size) := hidP ab_W4.size
      clear ab_W4 bk0_w3 bk1_w3 bk2_w3 bkF_w3 bkL_w3 rs0_w3 rs1_w3 rs2_w3 rsF_w3 rsL_w3 oL_w3 acc_w3
      have zG := own_zeroG KAd W4 W4.heap.size 28 (Nat.le_refl _)
      rw [as_W4.out] at zG
      have ab5 := alloc_below W4 (.cells #[] 28)
      have as5 : Hid ((W4.alloc (.cells #[] 28)).heap.size = W4.heap.size + 1) := hidP (by simp)
      generalize W4.alloc (.cells #[] 28) = W5 at *
      have bk0_W5 := (ab5.cell bkL_W4).trans bk0_W4
      have bk1_W5 := (ab5.cell bkL_W4).trans bk1_W4
      have bk2_W5 := (ab5.cell bkL_W4).trans bk2_W4
      have bkF_W5 : ∀ o, W5.frozen? ⟨w.heap.size, o, none⟩ = false := fun o => (ab5.frozen bkL_W4).trans (bkF_W4 o)
      have bkL_W5 : w.heap.size < W5.heap.size := Nat.lt_of_lt_of_le bkL_W4 ab5.size
      have rs0_W5 := (ab5.cell rsL_W4).trans rs0_W4
      have rs1_W5 := (ab5.cell rsL_W4).trans rs1_W4
      have rs2_W5 := (ab5.cell rsL_W4).trans rs2_W4
      have rsF_W5 : ∀ o, W5.frozen? ⟨w.heap.size + 1, o, none⟩ = false := fun o => (ab5.frozen rsL_W4).trans (rsF_W4 o)
      have rsL_W5 : w.heap.size + 1 < W5.heap.size := Nat.lt_of_lt_of_le rsL_W4 ab5.size
      have ou0_W5 := (ab5.cell ouL_W4).trans ou0_W4
      have ou1_W5 := (ab5.cell ouL_W4).trans ou1_W4
      have ou2_W5 := (ab5.cell ouL_W4).trans ou2_W4
      have ouF_W5 : ∀ o, W5.frozen? ⟨w3.heap.size, o, none⟩ = false := fun o => (ab5.frozen ouL_W4).trans (ouF_W4 o)
      have ouL_W5 : w3.heap.size < W5.heap.size := Nat.lt_of_lt_of_le ouL_W4 ab5.size
      have oL_W5 := hidP (OwnG.later oL_W4.out ab5)
      have acc_W5 := hidP (acc_W4.out.trans (ab5.mono acc_W4.out.size))
      have sz_W5 : Hid (W4.heap.size ≤ W5.heap.size) := hidP ab5.size
      clear ab5 bk0_W4 bk1_W4 bk2_W4 bkF_W4 bkL_W4 rs0_W4 rs1_W4 rs2_W4 rsF_W4 rsL_W4 ou0_W4 ou1_W4 ou2_W4 ouF_W4 ouL_W4 oL_W4 acc_W4
      have oG_W5 := hidP (zG)
      clear zG
      refine (HSp.out _ acc_W5.out).mono ?_
      rintro e w6 ⟨rfl, hb6⟩
      have bk0_w6 := (hb6.cell bkL_W5).trans bk0_W5
      have bk1_w6 := (hb6.cell bkL_W5).trans bk1_W5
      have bk2_w6 := (hb6.cell bkL_W5).trans bk2_W5
      have bkF_w6 : ∀ o, w6.frozen? ⟨w.heap.size, o, none⟩ = false := fun o => (hb6.frozen bkL_W5).trans (bkF_W5 o)
      have bkL_w6 : w.heap.size < w6.heap.size := Nat.lt_of_lt_of_le bkL_W5 hb6.size
      have rs0_w6 := (hb6.cell rsL_W5).trans rs0_W5
      have rs1_w6 := (hb6.cell rsL_W5).trans rs1_W5
      have rs2_w6 := (hb6.cell rsL_W5).trans rs2_W5
      have rsF_w6 : ∀ o, w6.frozen? ⟨w.heap.size + 1, o, none⟩ = false := fun o => (hb6.frozen rsL_W5).trans (rsF_W5 o)
      have rsL_w6 : w.heap.size + 1 < w6.heap.size := Nat.lt_of_lt_of_le rsL_W5 hb6.size
      have ou0_w6 := (hb6.cell ouL_W5).trans ou0_W5
      have ou1_w6 := (hb6.cell ouL_W5).trans ou1_W5
      have ou2_w6 := (hb6.cell ouL_W5).trans ou2_W5
      have ouF_w6 : ∀ o, w6.frozen? ⟨w3.heap.size, o, none⟩ = false := fun o => (hb6.frozen ouL_W5).trans (ouF_W5 o)
      have ouL_w6 : w3.heap.size < w6.heap.size := Nat.lt_of_lt_of_le ouL_W5 hb6.size
      have oL_w6 := hidP (OwnG.later oL_W5.out hb6)
      have oG_w6 := hidP (OwnG.later oG_W5.out hb6)
      have acc_w6 := hidP (acc_W5.out.trans (hb6.mono acc_W5.out.size))
      have sz_w6 : Hid (W5.heap.size ≤ w6.heap.size) := hidP hb6.size
      clear hb6 bk0_W5 bk1_W5 bk2_W5 bkF_W5 bkL_W5 rs0_W5 rs1_W5 rs2_W5 rsF_W5 rsL_W5 ou0_W5 ou1_W5 ou2_W5 ouF_W5 ouL_W5 oL_W5 oG_W5 acc_W5
      go_wp2_with fail
      refine bodyPost_ret (v := .tuple #[.agg #[.slice a3 n c3, .int .i64 T, .int .i64 N], .slice (some ⟨w3.heap.size + 1, 0, none⟩) 0 0]) (by simp [results, Tryz.results57, go_sem, rs0_w6, rs1_w6, rs2_w6]) rfl ⟨_, _, _, _, rfl, ?_, ?_, ?_, ?_⟩
      · refine OwnG.mono (B := W2.heap.size) ?_ (by have := as_W1.out; have := sz_W1.out; have := as_W2.out; have := sz_W2.out; have := sz_w3.out; have := as_W4.out; have := sz_W4.out; have := as5.out; have := sz_W5.out; have := sz_w6.out; omega)
        iterate 3 (with_reducible refine OwnG.grown ?_ (grown_cellG _ _ _ _) ?_; rotate_left; (focus (exact OwnG.ne_of oL_w6.out (by have := as_W1.out; have := sz_W1.out; have := as_W2.out; have := sz_W2.out; have := sz_w3.out; have := as_W4.out; have := sz_W4.out; have := as5.out; have := sz_W5.out; have := sz_w6.out; omega))))
        with_reducible exact oL_w6.out
      · refine OwnG.mono (B := w3.heap.size + 1) ?_ (by have := as_W1.out; have := sz_W1.out; have := as_W2.out; have := sz_W2.out; have := sz_w3.out; have := as_W4.out; have := sz_W4.out; have := as5.out; have := sz_W5.out; have := sz_w6.out; omega)
        iterate 3 (with_reducible refine OwnG.grown ?_ (grown_cellG _ _ _ _) ?_; rotate_left; (focus (exact OwnG.ne_of oG_w6.out (by have := as_W1.out; have := sz_W1.out; have := as_W2.out; have := sz_W2.out; have := sz_w3.out; have := as_W4.out; have := sz_W4.out; have := as5.out; have := sz_W5.out; have := sz_w6.out; omega))))
        with_reducible exact oG_w6.out
      · intro k h1 h2
        have h3 := (lo3.out k h1).2
        rw [ob_some, Option.some.injEq] at h2
        omega
      · repeat (with_reducible refine Below.setCell ?_ ?_ _; rotate_left; (focus (first | (simp; done) | (simp; omega))))
        exact acc_w6.out
    · clear hr
      go_enter Tryz.func57, Tryz.ntmps57
      go_wp2_with fail
      obtain ⟨bk0_W1, bk1_W1, bk2_W1⟩ := box3B w 26 (.slice a n c) (.int .i64 T) (.int .i64 N)
      have bkF_W1 : ∀ o, (w.alloc (.cells #[.slice a n c, .int .i64 T, .int .i64 N] 26)).frozen? ⟨w.heap.size, o, none⟩ = false := fun o => by simp [go_sem]
      have bkL_W1 : w.heap.size < (w.alloc (.cells #[.slice a n c, .int .i64 T, .int .i64 N] 26)).heap.size := by simp
      have ab_W1 := alloc_below w (.cells #[.slice a n c, .int .i64 T, .int .i64 N] 26)
      have as_W1 : Hid ((w.alloc (.cells #[.slice a n c, .int .i64 T, .int .i64 N] 26)).heap.size = w.heap.size + 1) := hidP (by simp)
      generalize w.alloc (.cells #[.slice a n c, .int .i64 T, .int .i64 N] 26) = W1 at *
      have acc_W1 := hidP (ab_W1)
      have sz_W1 : Hid (w.heap.size ≤ W1.heap.size) := hidP ab_W1.size
      clear ab_W1 
      obtain ⟨rs0_W2, rs1_W2, rs2_W2⟩ := box3B W1 26 (.slice none 0 0) (.int .i64 0) (.int .i64 0)
      have rsF_W2 : ∀ o, (W1.alloc (.cells #[.slice none 0 0, .int .i64 0, .int .i64 0] 26)).frozen? ⟨W1.heap.size, o, none⟩ = false := fun o => by simp [go_sem]
      have rsL_W2 : W1.heap.size < (W1.alloc (.cells #[.slice none 0 0, .int .i64 0, .int .i64 0] 26)).heap.size := by simp
      have ab_W2 := alloc_below W1 (.cells #[.slice none 0 0, .int .i64 0, .int .i64 0] 26)
      have as_W2 : Hid ((W1.alloc (.cells #[.slice none 0 0, .int .i64 0, .int .i64 0] 26)).heap.size = W1.heap.size + 1) := hidP (by simp)
      generalize W1.alloc (.cells #[.slice none 0 0, .int .i64 0, .int .i64 0] 26) = W2 at *
      have bk0_W2 := (ab_W2.cell bkL_W1).trans bk0_W1
      have bk1_W2 := (ab_W2.cell bkL_W1).trans bk1_W1
      have bk2_W2 := (ab_W2.cell bkL_W1).trans bk2_W1
      have bkF_W2 : ∀ o, W2.frozen? ⟨w.heap.size, o, none⟩ = false := fun o => (ab_W2.frozen bkL_W1).trans (bkF_W1 o)
      have bkL_W2 : w.heap.size < W2.heap.size := Nat.lt_of_lt_of_le bkL_W1 ab_W2.size
      have acc_W2 := hidP (acc_W1.out.trans (ab_W2.mono acc_W1.out.size))
      have sz_W2 : Hid (W1.heap.size ≤ W2.heap.size) := hidP ab_W2.size
      clear ab_W2 bk0_W1 bk1_W1 bk2_W1 bkF_W1 bkL_W1 acc_W1
      have eW1 := as_W1.out
      rw [eW1] at rs0_W2 rs1_W2 rs2_W2 rsL_W2
      have rsF_W2' : ∀ o, W2.frozen? ⟨w.heap.size + 1, o, none⟩ = false := fun o => by have := rsF_W2 o; rw [eW1] at this; exact this
      clear rsF_W2 eW1
      have rsF_W2 := rsF_W2'
      clear rsF_W2'
      refine (HOw.out _ acc_W2.out).mono ?_
      rintro e w3 ⟨a3, c3, rfl, og3, hb3⟩
      have lo3 := hidP (fun k hk => OwnG.lt og3 k hk)
      have og3' := hidP og3
      clear og3
      have bk0_w3 := (hb3.cell bkL_W2).trans bk0_W2
      have bk1_w3 := (hb3.cell bkL_W2).trans bk1_W2
      have bk2_w3 := (hb3.cell bkL_W2).trans bk2_W2
      have bkF_w3 : ∀ o, w3.frozen? ⟨w.heap.size, o, none⟩ = false := fun o => (hb3.frozen bkL_W2).trans (bkF_W2 o)
      have bkL_w3 : w.heap.size < w3.heap.size := Nat.lt_of_lt_of_le bkL_W2 hb3.size
      have rs0_w3 := (hb3.cell rsL_W2).trans rs0_W2
      have rs1_w3 := (hb3.cell rsL_W2).trans rs1_W2
      have rs2_w3 := (hb3.cell rsL_W2).trans rs2_W2
      have rsF_w3 : ∀ o, w3.frozen? ⟨w.heap.size + 1, o, none⟩ = false := fun o => (hb3.frozen rsL_W2).trans (rsF_W2 o)
      have rsL_w3 : w.heap.size + 1 < w3.heap.size := Nat.lt_of_lt_of_le rsL_W2 hb3.size
      have acc_w3 := hidP (acc_W2.out.trans (hb3.mono acc_W2.out.size))
      have sz_w3 : Hid (W2.heap.size ≤ w3.heap.size) := hidP hb3.size
      clear hb3 bk0_W2 bk1_W2 bk2_W2 bkF_W2 bkL_W2 rs0_W2 rs1_W2 rs2_W2 rsF_W2 rsL_W2 acc_W2
      have oL_w3 := hidP (og3'.out)
      go_wp2_with fail
      obtain ⟨ou0_W4, ou1_W4, ou2_W4⟩ := box3B w3 26 (.slice a3 n c3) (.int .i64 T) (.int .i64 N)
      have ouF_W4 : ∀ o, (w3.alloc (.cells #[.slice a3 n c3, .int .i64 T, .int .i64 N] 26)).frozen? ⟨w3.heap.size, o, none⟩ = false := fun o => by simp [go_sem]
      have ouL_W4 : w3.heap.size < (w3.alloc (.cells #[.slice a3 n c3, .int .i64 T, .int .i64 N] 26)).heap.size := by simp
      have ab_W4 := alloc_below w3 (.cells #[.slice a3 n c3, .int .i64 T, .int .i64 N] 26)
      have as_W4 : Hid ((w3.alloc (.cells #[.slice a3 n c3, .int .i64 T, .int .i64 N] 26)).heap.size = w3.heap.size + 1) := hidP (by simp)
      generalize w3.alloc (.cells #[.slice a3 n c3, .int .i64 T, .int .i64 N] 26) = W4 at *
      have bk0_W4 := (ab_W4.cell bkL_w3).trans bk0_w3
      have bk1_W4 := (ab_W4.cell bkL_w3).trans bk1_w3
      have bk2_W4 := (ab_W4.cell bkL_w3).trans bk2_w3
      have bkF_W4 : ∀ o, W4.frozen? ⟨w.heap.size, o, none⟩ = false := fun o => (ab_W4.frozen bkL_w3).trans (bkF_w3 o)
      have bkL_W4 : w.heap.size < W4.heap.size := Nat.lt_of_lt_of_le bkL_w3 ab_W4.size
      have rs0_W4 := (ab_W4.cell rsL_w3).trans rs0_w3
      have rs1_W4 := (ab_W4.cell rsL_w3).trans rs1_w3
      have rs2_W4 := (ab_W4.cell rsL_w3).trans rs2_w3
      have rsF_W4 : ∀ o, W4.frozen? ⟨w.heap.size + 1, o, none⟩ = false := fun o => (ab_W4.frozen rsL_w3).trans (rsF_w3 o)
      have rsL_W4 : w.heap.size + 1 < W4.heap.size := Nat.lt_of_lt_of_le rsL_w3 ab_W4.size
      have oL_W4 := hidP (OwnG.later oL_w3.out ab_W4)
      have acc_W4 := hidP (acc_w3.out.trans (ab_W4.mono acc_w3.out.size))
      have sz_W4 : Hid (w3.heap.size ≤ W4.heap.size) := hidP ab_W4.size
      clear ab_W4 bk0_w3 bk1_w3 bk2_w3 bkF_w3 bkL_w3 rs0_w3 rs1_w3 rs2_w3 rsF_w3 rsL_w3 oL_w3 acc_w3
      have zG := own_zeroG KAd W4 W4.heap.size 28 (Nat.le_refl _)
      rw [as_W4.out] at zG
      have ab5 := alloc_below W4 (.cells #[] 28)
      have as5 : Hid ((W4.alloc (.cells #[] 28)).heap.size = W4.heap.size + 1) := hidP (by simp)
      generalize W4.alloc (.cells #[] 28) = W5 at *
      have bk0_W5 := (ab5.cell bkL_W4).trans bk0_W4
      have bk1_W5 := (ab5.cell bkL_W4).trans bk1_W4
      have bk2_W5 := (ab5.cell bkL_W4).trans bk2_W4
      have bkF_W5 : ∀ o, W5.frozen? ⟨w.heap.size, o, none⟩ = false := fun o => (ab5.frozen bkL_W4).trans (bkF_W4 o)
      have bkL_W5 : w.heap.size < W5.heap.size := Nat.lt_of_lt_of_le bkL_W4 ab5.size
      have rs0_W5 := (ab5.cell rsL_W4).trans rs0_W4
      have rs1_W5 := (ab5.cell rsL_W4).trans rs1_W4
      have rs2_W5 := (ab5.cell rsL_W4).trans rs2_W4
      have rsF_W5 : ∀ o, W5.frozen? ⟨w.heap.size + 1, o, none⟩ = false := fun o => (ab5.frozen rsL_W4).trans (rsF_W4 o)
      have rsL_W5 : w.heap.size + 1 < W5.heap.size := Nat.lt_of_lt_of_le rsL_W4 ab5.size
      have ou0_W5 := (ab5.cell ouL_W4).trans ou0_W4
      have ou1_W5 := (ab5.cell ouL_W4).trans ou1_W4
      have ou2_W5 := (ab5.cell ouL_W4).trans ou2_W4
      have ouF_W5 : ∀ o, W5.frozen? ⟨w3.heap.size, o, none⟩ = false := fun o => (ab5.frozen ouL_W4).trans (ouF_W4 o)
      have ouL_W5 : w3.heap.size < W5.heap.size := Nat.lt_of_lt_of_le ouL_W4 ab5.size
      have oL_W5 := hidP (OwnG.later oL_W4.out ab5)
      have acc_W5 := hidP (acc_W4.out.trans (ab5.mono acc_W4.out.size))
      have sz_W5 : Hid (W4.heap.size ≤ W5.heap.size) := hidP ab5.size
      clear ab5 bk0_W4 bk1_W4 bk2_W4 bkF_W4 bkL_W4 rs0_W4 rs1_W4 rs2_W4 rsF_W4 rsL_W4 ou0_W4 ou1_W4 ou2_W4 ouF_W4 ouL_W4 oL_W4 acc_W4
      have oG_W5 := hidP (zG)
      clear zG
      refine (HSp.out _ acc_W5.out).mono ?_
      rintro e w6 ⟨rfl, hb6⟩
      have bk0_w6 := (hb6.cell bkL_W5).trans bk0_W5
      have bk1_w6 := (hb6.cell bkL_W5).trans bk1_W5
      have bk2_w6 := (hb6.cell bkL_W5).trans bk2_W5
      have bkF_w6 : ∀ o, w6.frozen? ⟨w.heap.size, o, none⟩ = false := fun o => (hb6.frozen bkL_W5).trans (bkF_W5 o)
      have bkL_w6 : w.heap.size < w6.heap.size := Nat.lt_of_lt_of_le bkL_W5 hb6.size
      have rs0_w6 := (hb6.cell rsL_W5).trans rs0_W5
      have rs1_w6 := (hb6.cell rsL_W5).trans rs1_W5
      have rs2_w6 := (hb6.cell rsL_W5).trans rs2_W5
      have rsF_w6 : ∀ o, w6.frozen? ⟨w.heap.size + 1, o, none⟩ = false := fun o => (hb6.frozen rsL_W5).trans (rsF_W5 o)
      have rsL_w6 : w.heap.size + 1 < w6.heap.size := Nat.lt_of_lt_of_le rsL_W5 hb6.size
      have ou0_w6 := (hb6.cell ouL_W5).trans ou0_W5
      have ou1_w6 := (hb6.cell ouL_W5).trans ou1_W5
      have ou2_w6 := (hb6.cell ouL_W5).trans ou2_W5
      have ouF_w6 : ∀ o, w6.frozen? ⟨w3.heap.size, o, none⟩ = false := fun o => (hb6.frozen ouL_W5).trans (ouF_W5 o)
      have ouL_w6 : w3.heap.size < w6.heap.size := Nat.lt_of_lt_of_le ouL_W5 hb6.size
      have oL_w6 := hidP (OwnG.later oL_W5.out hb6)
      have oG_w6 := hidP (OwnG.later oG_W5.out hb6)
      have acc_w6 := hidP (acc_W5.out.trans (hb6.mono acc_W5.out.size))
      have sz_w6 : Hid (W5.heap.size ≤ w6.heap.size) := hidP hb6.size
      clear hb6 bk0_W5 bk1_W5 bk2_W5 bkF_W5 bkL_W5 rs0_W5 rs1_W5 rs2_W5 rsF_W5 rsL_W5 ou0_W5 ou1_W5 ou2_W5 ouF_W5 ouL_W5 oL_W5 oG_W5 acc_W5
      go_wp2_with fail
      refine bodyPost_ret (v := .tuple #[.agg #[.slice a3 n c3, .int .i64 T, .int .i64 N], .slice (some ⟨w3.heap.size + 1, 0, none⟩) 0 0]) (by simp [results, Tryz.results57, go_sem, rs0_w6, rs1_w6, rs2_w6]) rfl ⟨_, _, _, _, rfl, ?_, ?_, ?_, ?_⟩
      · refine OwnG.mono (B := W2.heap.size) ?_ (by have := as_W1.out; have := sz_W1.out; have := as_W2.out; have := sz_W2.out; have := sz_w3.out; have := as_W4.out; have := sz_W4.out; have := as5.out; have := sz_W5.out; have := sz_w6.out; omega)
        iterate 3 (with_reducible refine OwnG.grown ?_ (grown_cellG _ _ _ _) ?_; rotate_left; (focus (exact OwnG.ne_of oL_w6.out (by have := as_W1.out; have := sz_W1.out; have := as_W2.out; have := sz_W2.out; have := sz_w3.out; have := as_W4.out; have := sz_W4.out; have := as5.out; have := sz_W5.out; have := sz_w6.out; omega))))
        with_reducible exact oL_w6.out
      · refine OwnG.mono (B := w3.heap.size + 1) ?_ (by have := as_W1.out; have := sz_W1.out; have := as_W2.out; have := sz_W2.out; have := sz_w3.out; have := as_W4.out; have := sz_W4.out; have := as5.out; have := sz_W5.out; have := sz_w6.out; omega)
        iterate 3 (with_reducible refine OwnG.grown ?_ (grown_cellG _ _ _ _) ?_; rotate_left; (focus (exact OwnG.ne_of oG_w6.out (by have := as_W1.out; have := sz_W1.out; have := as_W2.out; have := sz_W2.out; have := sz_w3.out; have := as_W4.out; have := sz_W4.out; have := as5.out; have := sz_W5.out; have := sz_w6.out; omega))))
        with_reducible exact oG_w6.out
      · intro k h1 h2
        have h3 := (lo3.out k h1).2
        rw [ob_some, Option.some.injEq] at h2
        omega
      · repeat (with_reducible refine Below.setCell ?_ ?_ _; rotate_left; (focus (first | (simp; done) | (simp; omega))))
        exact acc_w6.out

set_option maxRecDepth 10000 in
set_option maxHeartbeats 4000000 in
theorem sAdv_yes (a : Option Addr) (n c : Nat) (T N : Int) (ls : List Ls) (w : World) (hn : n = ls.length) (hB : RowG KLs w a ls) (hc : a = none → c = 0) (hl : n ≤ 1048576) (hst : ∀ q ∈ ls, q.t.size ≤ 9223372036854775807) (now : Int) (hr : (bkB ls T N && (decide (N < now) && decide (now ≤ 1000000000))) = true) :
    Calls Tryz.prog 57 #[.agg #[.slice a n c, .int .i64 T, .int .i64 N], .int .i64 now] w fun e w' => ∃ a' c' b' d', e = .returned (.tuple #[.agg #[.slice a' (stayL now ls).length c', .int .i64 T, .int .i64 now], .slice b' (goneL now ls).length d']) ∧ OwnG KLs 35 w' w.heap.size (.slice a' (stayL now ls).length c') (stayL now ls) ∧ OwnG KAd 28 w' w.heap.size (.slice b' (goneL now ls).length d') (goneL now ls) ∧ (∀ k, (Value.slice a' (stayL now ls).length c').ownBlock = some k → (Value.slice b' (goneL now ls).length d').ownBlock ≠ some k) ∧ Below w.heap.size w w' := by
  have HOw := hidP (fun W h => l6Copy_any a n c T N ls W hn (hB.later h) hc hl)
  have HSp := hidP (fun W h => sBookOk_any a n c T N ls W hn (hB.later h) hl hst)
  have HN := hidP hn
  have HR := hidP hB
  clear hB hn hst hc
  rw [Bool.and_eq_true, Bool.and_eq_true] at hr
  obtain ⟨hb, hN0, hN1⟩ := hr
  have h1 : decide (now ≤ N) = false := by have := of_decide_eq_true hN0; exact decide_eq_false (by omega)
  have h2 : decide ((1000000000 : Int) < now) = false := by have := of_decide_eq_true hN1; exact decide_eq_false (by omega)
  have hn80 : n ≤ 80 := by
    unfold bkB at hb
    simp only [Bool.and_eq_true, decide_eq_true_eq] at hb
    have := hb.1.1; have := HN.out; omega
  rw [hb] at HSp
  clear hN0 hN1 hb
  go_enter Tryz.func57, Tryz.ntmps57
  go_wp2_with fail
  obtain ⟨bk0_W1, bk1_W1, bk2_W1⟩ := box3B w 26 (.slice a n c) (.int .i64 T) (.int .i64 N)
  have bkF_W1 : ∀ o, (w.alloc (.cells #[.slice a n c, .int .i64 T, .int .i64 N] 26)).frozen? ⟨w.heap.size, o, none⟩ = false := fun o => by simp [go_sem]
  have bkL_W1 : w.heap.size < (w.alloc (.cells #[.slice a n c, .int .i64 T, .int .i64 N] 26)).heap.size := by simp
  have ab_W1 := alloc_below w (.cells #[.slice a n c, .int .i64 T, .int .i64 N] 26)
  have as_W1 : Hid ((w.alloc (.cells #[.slice a n c, .int .i64 T, .int .i64 N] 26)).heap.size = w.heap.size + 1) := hidP (by simp)
  generalize w.alloc (.cells #[.slice a n c, .int .i64 T, .int .i64 N] 26) = W1 at *
  have acc_W1 := hidP (ab_W1)
  have sz_W1 : Hid (w.heap.size ≤ W1.heap.size) := hidP ab_W1.size
  clear ab_W1 
  obtain ⟨rs0_W2, rs1_W2, rs2_W2⟩ := box3B W1 26 (.slice none 0 0) (.int .i64 0) (.int .i64 0)
  have rsF_W2 : ∀ o, (W1.alloc (.cells #[.slice none 0 0, .int .i64 0, .int .i64 0] 26)).frozen? ⟨W1.heap.size, o, none⟩ = false := fun o => by simp [go_sem]
  have rsL_W2 : W1.heap.size < (W1.alloc (.cells #[.slice none 0 0, .int .i64 0, .int .i64 0] 26)).heap.size := by simp
  have ab_W2 := alloc_below W1 (.cells #[.slice none 0 0, .int .i64 0, .int .i64 0] 26)
  have as_W2 : Hid ((W1.alloc (.cells #[.slice none 0 0, .int .i64 0, .int .i64 0] 26)).heap.size = W1.heap.size + 1) := hidP (by simp)
  generalize W1.alloc (.cells #[.slice none 0 0, .int .i64 0, .int .i64 0] 26) = W2 at *
  have bk0_W2 := (ab_W2.cell bkL_W1).trans bk0_W1
  have bk1_W2 := (ab_W2.cell bkL_W1).trans bk1_W1
  have bk2_W2 := (ab_W2.cell bkL_W1).trans bk2_W1
  have bkF_W2 : ∀ o, W2.frozen? ⟨w.heap.size, o, none⟩ = false := fun o => (ab_W2.frozen bkL_W1).trans (bkF_W1 o)
  have bkL_W2 : w.heap.size < W2.heap.size := Nat.lt_of_lt_of_le bkL_W1 ab_W2.size
  have acc_W2 := hidP (acc_W1.out.trans (ab_W2.mono acc_W1.out.size))
  have sz_W2 : Hid (W1.heap.size ≤ W2.heap.size) := hidP ab_W2.size
  clear ab_W2 bk0_W1 bk1_W1 bk2_W1 bkF_W1 bkL_W1 acc_W1
  have eW1 := as_W1.out
  rw [eW1] at rs0_W2 rs1_W2 rs2_W2 rsL_W2
  have rsF_W2' : ∀ o, W2.frozen? ⟨w.heap.size + 1, o, none⟩ = false := fun o => by have := rsF_W2 o; rw [eW1] at this; exact this
  clear rsF_W2 eW1
  have rsF_W2 := rsF_W2'
  clear rsF_W2'
  refine (HOw.out _ acc_W2.out).mono ?_
  rintro e w3 ⟨a3, c3, rfl, og3, hb3⟩
  have lo3 := hidP (fun k hk => OwnG.lt og3 k hk)
  have og3' := hidP og3
  clear og3
  have bk0_w3 := (hb3.cell bkL_W2).trans bk0_W2
  have bk1_w3 := (hb3.cell bkL_W2).trans bk1_W2
  have bk2_w3 := (hb3.cell bkL_W2).trans bk2_W2
  have bkF_w3 : ∀ o, w3.frozen? ⟨w.heap.size, o, none⟩ = false := fun o => (hb3.frozen bkL_W2).trans (bkF_W2 o)
  have bkL_w3 : w.heap.size < w3.heap.size := Nat.lt_of_lt_of_le bkL_W2 hb3.size
  have rs0_w3 := (hb3.cell rsL_W2).trans rs0_W2
  have rs1_w3 := (hb3.cell rsL_W2).trans rs1_W2
  have rs2_w3 := (hb3.cell rsL_W2).trans rs2_W2
  have rsF_w3 : ∀ o, w3.frozen? ⟨w.heap.size + 1, o, none⟩ = false := fun o => (hb3.frozen rsL_W2).trans (rsF_W2 o)
  have rsL_w3 : w.heap.size + 1 < w3.heap.size := Nat.lt_of_lt_of_le rsL_W2 hb3.size
  have acc_w3 := hidP (acc_W2.out.trans (hb3.mono acc_W2.out.size))
  have sz_w3 : Hid (W2.heap.size ≤ w3.heap.size) := hidP hb3.size
  clear hb3 bk0_W2 bk1_W2 bk2_W2 bkF_W2 bkL_W2 rs0_W2 rs1_W2 rs2_W2 rsF_W2 rsL_W2 acc_W2
  go_wp2_with fail
  obtain ⟨ou0_W4, ou1_W4, ou2_W4⟩ := box3B w3 26 (.slice a3 n c3) (.int .i64 T) (.int .i64 N)
  have ouF_W4 : ∀ o, (w3.alloc (.cells #[.slice a3 n c3, .int .i64 T, .int .i64 N] 26)).frozen? ⟨w3.heap.size, o, none⟩ = false := fun o => by simp [go_sem]
  have ouL_W4 : w3.heap.size < (w3.alloc (.cells #[.slice a3 n c3, .int .i64 T, .int .i64 N] 26)).heap.size := by simp
  have ab_W4 := alloc_below w3 (.cells #[.slice a3 n c3, .int .i64 T, .int .i64 N] 26)
  have as_W4 : Hid ((w3.alloc (.cells #[.slice a3 n c3, .int .i64 T, .int .i64 N] 26)).heap.size = w3.heap.size + 1) := hidP (by simp)
  generalize w3.alloc (.cells #[.slice a3 n c3, .int .i64 T, .int .i64 N] 26) = W4 at *
  have bk0_W4 := (ab_W4.cell bkL_w3).trans bk0_w3
  have bk1_W4 := (ab_W4.cell bkL_w3).trans bk1_w3
  have bk2_W4 := (ab_W4.cell bkL_w3).trans bk2_w3
  have bkF_W4 : ∀ o, W4.frozen? ⟨w.heap.size, o, none⟩ = false := fun o => (ab_W4.frozen bkL_w3).trans (bkF_w3 o)
  have bkL_W4 : w.heap.size < W4.heap.size := Nat.lt_of_lt_of_le bkL_w3 ab_W4.size
  have rs0_W4 := (ab_W4.cell rsL_w3).trans rs0_w3
  have rs1_W4 := (ab_W4.cell rsL_w3).trans rs1_w3
  have rs2_W4 := (ab_W4.cell rsL_w3).trans rs2_w3
  have rsF_W4 : ∀ o, W4.frozen? ⟨w.heap.size + 1, o, none⟩ = false := fun o => (ab_W4.frozen rsL_w3).trans (rsF_w3 o)
  have rsL_W4 : w.heap.size + 1 < W4.heap.size := Nat.lt_of_lt_of_le rsL_w3 ab_W4.size
  have acc_W4 := hidP (acc_w3.out.trans (ab_W4.mono acc_w3.out.size))
  have sz_W4 : Hid (w3.heap.size ≤ W4.heap.size) := hidP ab_W4.size
  clear ab_W4 bk0_w3 bk1_w3 bk2_w3 bkF_w3 bkL_w3 rs0_w3 rs1_w3 rs2_w3 rsF_w3 rsL_w3 acc_w3
  have zG := own_zeroG KAd W4 W4.heap.size 28 (Nat.le_refl _)
  rw [as_W4.out] at zG
  have ab5 := alloc_below W4 (.cells #[] 28)
  have as5 : Hid ((W4.alloc (.cells #[] 28)).heap.size = W4.heap.size + 1) := hidP (by simp)
  generalize W4.alloc (.cells #[] 28) = W5 at *
  have bk0_W5 := (ab5.cell bkL_W4).trans bk0_W4
  have bk1_W5 := (ab5.cell bkL_W4).trans bk1_W4
  have bk2_W5 := (ab5.cell bkL_W4).trans bk2_W4
  have bkF_W5 : ∀ o, W5.frozen? ⟨w.heap.size, o, none⟩ = false := fun o => (ab5.frozen bkL_W4).trans (bkF_W4 o)
  have bkL_W5 : w.heap.size < W5.heap.size := Nat.lt_of_lt_of_le bkL_W4 ab5.size
  have rs0_W5 := (ab5.cell rsL_W4).trans rs0_W4
  have rs1_W5 := (ab5.cell rsL_W4).trans rs1_W4
  have rs2_W5 := (ab5.cell rsL_W4).trans rs2_W4
  have rsF_W5 : ∀ o, W5.frozen? ⟨w.heap.size + 1, o, none⟩ = false := fun o => (ab5.frozen rsL_W4).trans (rsF_W4 o)
  have rsL_W5 : w.heap.size + 1 < W5.heap.size := Nat.lt_of_lt_of_le rsL_W4 ab5.size
  have ou0_W5 := (ab5.cell ouL_W4).trans ou0_W4
  have ou1_W5 := (ab5.cell ouL_W4).trans ou1_W4
  have ou2_W5 := (ab5.cell ouL_W4).trans ou2_W4
  have ouF_W5 : ∀ o, W5.frozen? ⟨w3.heap.size, o, none⟩ = false := fun o => (ab5.frozen ouL_W4).trans (ouF_W4 o)
  have ouL_W5 : w3.heap.size < W5.heap.size := Nat.lt_of_lt_of_le ouL_W4 ab5.size
  have acc_W5 := hidP (acc_W4.out.trans (ab5.mono acc_W4.out.size))
  have sz_W5 : Hid (W4.heap.size ≤ W5.heap.size) := hidP ab5.size
  clear ab5 bk0_W4 bk1_W4 bk2_W4 bkF_W4 bkL_W4 rs0_W4 rs1_W4 rs2_W4 rsF_W4 rsL_W4 ou0_W4 ou1_W4 ou2_W4 ouF_W4 ouL_W4 acc_W4
  have oG_W5 := hidP (zG)
  clear zG
  refine (HSp.out _ acc_W5.out).mono ?_
  rintro e w6 ⟨rfl, hb6⟩
  have bk0_w6 := (hb6.cell bkL_W5).trans bk0_W5
  have bk1_w6 := (hb6.cell bkL_W5).trans bk1_W5
  have bk2_w6 := (hb6.cell bkL_W5).trans bk2_W5
  have bkF_w6 : ∀ o, w6.frozen? ⟨w.heap.size, o, none⟩ = false := fun o => (hb6.frozen bkL_W5).trans (bkF_W5 o)
  have bkL_w6 : w.heap.size < w6.heap.size := Nat.lt_of_lt_of_le bkL_W5 hb6.size
  have rs0_w6 := (hb6.cell rsL_W5).trans rs0_W5
  have rs1_w6 := (hb6.cell rsL_W5).trans rs1_W5
  have rs2_w6 := (hb6.cell rsL_W5).trans rs2_W5
  have rsF_w6 : ∀ o, w6.frozen? ⟨w.heap.size + 1, o, none⟩ = false := fun o => (hb6.frozen rsL_W5).trans (rsF_W5 o)
  have rsL_w6 : w.heap.size + 1 < w6.heap.size := Nat.lt_of_lt_of_le rsL_W5 hb6.size
  have ou0_w6 := (hb6.cell ouL_W5).trans ou0_W5
  have ou1_w6 := (hb6.cell ouL_W5).trans ou1_W5
  have ou2_w6 := (hb6.cell ouL_W5).trans ou2_W5
  have ouF_w6 : ∀ o, w6.frozen? ⟨w3.heap.size, o, none⟩ = false := fun o => (hb6.frozen ouL_W5).trans (ouF_W5 o)
  have ouL_w6 : w3.heap.size < w6.heap.size := Nat.lt_of_lt_of_le ouL_W5 hb6.size
  have oG_w6 := hidP (OwnG.later oG_W5.out hb6)
  have acc_w6 := hidP (acc_W5.out.trans (hb6.mono acc_W5.out.size))
  have sz_w6 : Hid (W5.heap.size ≤ w6.heap.size) := hidP hb6.size
  clear hb6 bk0_W5 bk1_W5 bk2_W5 bkF_W5 bkL_W5 rs0_W5 rs1_W5 rs2_W5 rsF_W5 rsL_W5 ou0_W5 ou1_W5 ou2_W5 ouF_W5 ouL_W5 oG_W5 acc_W5
  go_wp2_with fail
  have ou0_W7 : (w6.setCell ⟨w3.heap.size, 2, none⟩ (.int .i64 now)).cell? ⟨w3.heap.size, 0, none⟩ = some (.slice a3 n c3) := by simp [go_sem, ou0_w6]
  have ou1_W7 : (w6.setCell ⟨w3.heap.size, 2, none⟩ (.int .i64 now)).cell? ⟨w3.heap.size, 1, none⟩ = some (.int .i64 T) := by simp [go_sem, ou1_w6]
  have ou2_W7 : (w6.setCell ⟨w3.heap.size, 2, none⟩ (.int .i64 now)).cell? ⟨w3.heap.size, 2, none⟩ = some (.int .i64 now) := by simp [go_sem, ou2_w6]
  have bk0_W7 : (w6.setCell ⟨w3.heap.size, 2, none⟩ (.int .i64 now)).cell? ⟨w.heap.size, 0, none⟩ = some (.slice a n c) := cell_set1 (bk0_w6) (by have := as_W1.out; have := sz_W1.out; have := as_W2.out; have := sz_W2.out; have := sz_w3.out; have := as_W4.out; have := sz_W4.out; have := as5.out; have := sz_W5.out; have := sz_w6.out; omega)
  have bk1_W7 : (w6.setCell ⟨w3.heap.size, 2, none⟩ (.int .i64 now)).cell? ⟨w.heap.size, 1, none⟩ = some (.int .i64 T) := cell_set1 (bk1_w6) (by have := as_W1.out; have := sz_W1.out; have := as_W2.out; have := sz_W2.out; have := sz_w3.out; have := as_W4.out; have := sz_W4.out; have := as5.out; have := sz_W5.out; have := sz_w6.out; omega)
  have bk2_W7 : (w6.setCell ⟨w3.heap.size, 2, none⟩ (.int .i64 now)).cell? ⟨w.heap.size, 2, none⟩ = some (.int .i64 N) := cell_set1 (bk2_w6) (by have := as_W1.out; have := sz_W1.out; have := as_W2.out; have := sz_W2.out; have := sz_w3.out; have := as_W4.out; have := sz_W4.out; have := as5.out; have := sz_W5.out; have := sz_w6.out; omega)
  have bkF_W7 : ∀ o, (w6.setCell ⟨w3.heap.size, 2, none⟩ (.int .i64 now)).frozen? ⟨w.heap.size, o, none⟩ = false := fun o => frz_set1 ((bkF_w6 o))
  have bkL_W7 : w.heap.size < (w6.setCell ⟨w3.heap.size, 2, none⟩ (.int .i64 now)).heap.size := by simpa using bkL_w6
  have rs0_W7 : (w6.setCell ⟨w3.heap.size, 2, none⟩ (.int .i64 now)).cell? ⟨w.heap.size + 1, 0, none⟩ = some (.slice none 0 0) := cell_set1 (rs0_w6) (by have := as_W1.out; have := sz_W1.out; have := as_W2.out; have := sz_W2.out; have := sz_w3.out; have := as_W4.out; have := sz_W4.out; have := as5.out; have := sz_W5.out; have := sz_w6.out; omega)
  have rs1_W7 : (w6.setCell ⟨w3.heap.size, 2, none⟩ (.int .i64 now)).cell? ⟨w.heap.size + 1, 1, none⟩ = some (.int .i64 0) := cell_set1 (rs1_w6) (by have := as_W1.out; have := sz_W1.out; have := as_W2.out; have := sz_W2.out; have := sz_w3.out; have := as_W4.out; have := sz_W4.out; have := as5.out; have := sz_W5.out; have := sz_w6.out; omega)
  have rs2_W7 : (w6.setCell ⟨w3.heap.size, 2, none⟩ (.int .i64 now)).cell? ⟨w.heap.size + 1, 2, none⟩ = some (.int .i64 0) := cell_set1 (rs2_w6) (by have := as_W1.out; have := sz_W1.out; have := as_W2.out; have := sz_W2.out; have := sz_w3.out; have := as_W4.out; have := sz_W4.out; have := as5.out; have := sz_W5.out; have := sz_w6.out; omega)
  have rsF_W7 : ∀ o, (w6.setCell ⟨w3.heap.size, 2, none⟩ (.int .i64 now)).frozen? ⟨w.heap.size + 1, o, none⟩ = false := fun o => frz_set1 ((rsF_w6 o))
  have rsL_W7 : w.heap.size + 1 < (w6.setCell ⟨w3.heap.size, 2, none⟩ (.int .i64 now)).heap.size := by simpa using rsL_w6
  have ouF_W7 : ∀ o, (w6.setCell ⟨w3.heap.size, 2, none⟩ (.int .i64 now)).frozen? ⟨w3.heap.size, o, none⟩ = false := fun o => frz_set1 ((ouF_w6 o))
  have ouL_W7 : w3.heap.size < (w6.setCell ⟨w3.heap.size, 2, none⟩ (.int .i64 now)).heap.size := by simpa using ouL_w6
  have oG_W7 : Hid (OwnG KAd 28 (w6.setCell ⟨w3.heap.size, 2, none⟩ (.int .i64 now)) (w3.heap.size + 1) (.slice (some ⟨w3.heap.size + 1, 0, none⟩) 0 0) ([])) := hidP (OwnG.grown (oG_w6.out) (grown_cellG _ _ _ _) (OwnG.ne_of oG_w6.out (by have := as_W1.out; have := sz_W1.out; have := as_W2.out; have := sz_W2.out; have := sz_w3.out; have := as_W4.out; have := sz_W4.out; have := as5.out; have := sz_W5.out; have := sz_w6.out; omega)))
  have acc_W7 : Hid (Below w.heap.size w (w6.setCell ⟨w3.heap.size, 2, none⟩ (.int .i64 now))) := hidP (Below.setCell (acc_w6.out) (by have := as_W1.out; have := sz_W1.out; have := as_W2.out; have := sz_W2.out; have := sz_w3.out; have := as_W4.out; have := sz_W4.out; have := as5.out; have := sz_W5.out; have := sz_w6.out; try dsimp only; omega) _)
  have sz_W7 : Hid ((w6.setCell ⟨w3.heap.size, 2, none⟩ (.int .i64 now)).heap.size = w6.heap.size) := hidP (by simp)
  generalize w6.setCell ⟨w3.heap.size, 2, none⟩ (.int .i64 now) = W7 at *
  clear ou0_w6 ou1_w6 ou2_w6 bk0_w6 bk1_w6 bk2_w6 bkF_w6 bkL_w6 rs0_w6 rs1_w6 rs2_w6 rsF_w6 rsL_w6 ouF_w6 ouL_w6 oG_w6 acc_w6
  have ou0_W8 : (W7.setCell ⟨w3.heap.size, 0, none⟩ (.slice (some ⟨w6.heap.size, 0, none⟩) 0 0)).cell? ⟨w3.heap.size, 0, none⟩ = some (.slice (some ⟨w6.heap.size, 0, none⟩) 0 0) := by simp [go_sem, ou0_W7]
  have ou1_W8 : (W7.setCell ⟨w3.heap.size, 0, none⟩ (.slice (some ⟨w6.heap.size, 0, none⟩) 0 0)).cell? ⟨w3.heap.size, 1, none⟩ = some (.int .i64 T) := by simp [go_sem, ou1_W7]
  have ou2_W8 : (W7.setCell ⟨w3.heap.size, 0, none⟩ (.slice (some ⟨w6.heap.size, 0, none⟩) 0 0)).cell? ⟨w3.heap.size, 2, none⟩ = some (.int .i64 now) := by simp [go_sem, ou2_W7]
  have bk0_W8 : (W7.setCell ⟨w3.heap.size, 0, none⟩ (.slice (some ⟨w6.heap.size, 0, none⟩) 0 0)).cell? ⟨w.heap.size, 0, none⟩ = some (.slice a n c) := cell_set1 (bk0_W7) (by have := as_W1.out; have := sz_W1.out; have := as_W2.out; have := sz_W2.out; have := sz_w3.out; have := as_W4.out; have := sz_W4.out; have := as5.out; have := sz_W5.out; have := sz_w6.out; have := sz_W7.out; omega)
  have bk1_W8 : (W7.setCell ⟨w3.heap.size, 0, none⟩ (.slice (some ⟨w6.heap.size, 0, none⟩) 0 0)).cell? ⟨w.heap.size, 1, none⟩ = some (.int .i64 T) := cell_set1 (bk1_W7) (by have := as_W1.out; have := sz_W1.out; have := as_W2.out; have := sz_W2.out; have := sz_w3.out; have := as_W4.out; have := sz_W4.out; have := as5.out; have := sz_W5.out; have := sz_w6.out; have := sz_W7.out; omega)
  have bk2_W8 : (W7.setCell ⟨w3.heap.size, 0, none⟩ (.slice (some ⟨w6.heap.size, 0, none⟩) 0 0)).cell? ⟨w.heap.size, 2, none⟩ = some (.int .i64 N) := cell_set1 (bk2_W7) (by have := as_W1.out; have := sz_W1.out; have := as_W2.out; have := sz_W2.out; have := sz_w3.out; have := as_W4.out; have := sz_W4.out; have := as5.out; have := sz_W5.out; have := sz_w6.out; have := sz_W7.out; omega)
  have bkF_W8 : ∀ o, (W7.setCell ⟨w3.heap.size, 0, none⟩ (.slice (some ⟨w6.heap.size, 0, none⟩) 0 0)).frozen? ⟨w.heap.size, o, none⟩ = false := fun o => frz_set1 ((bkF_W7 o))
  have bkL_W8 : w.heap.size < (W7.setCell ⟨w3.heap.size, 0, none⟩ (.slice (some ⟨w6.heap.size, 0, none⟩) 0 0)).heap.size := by simpa using bkL_W7
  have rs0_W8 : (W7.setCell ⟨w3.heap.size, 0, none⟩ (.slice (some ⟨w6.heap.size, 0, none⟩) 0 0)).cell? ⟨w.heap.size + 1, 0, none⟩ = some (.slice none 0 0) := cell_set1 (rs0_W7) (by have := as_W1.out; have := sz_W1.out; have := as_W2.out; have := sz_W2.out; have := sz_w3.out; have := as_W4.out; have := sz_W4.out; have := as5.out; have := sz_W5.out; have := sz_w6.out; have := sz_W7.out; omega)
  have rs1_W8 : (W7.setCell ⟨w3.heap.size, 0, none⟩ (.slice (some ⟨w6.heap.size, 0, none⟩) 0 0)).cell? ⟨w.heap.size + 1, 1, none⟩ = some (.int .i64 0) := cell_set1 (rs1_W7) (by have := as_W1.out; have := sz_W1.out; have := as_W2.out; have := sz_W2.out; have := sz_w3.out; have := as_W4.out; have := sz_W4.out; have := as5.out; have := sz_W5.out; have := sz_w6.out; have := sz_W7.out; omega)
  have rs2_W8 : (W7.setCell ⟨w3.heap.size, 0, none⟩ (.slice (some ⟨w6.heap.size, 0, none⟩) 0 0)).cell? ⟨w.heap.size + 1, 2, none⟩ = some (.int .i64 0) := cell_set1 (rs2_W7) (by have := as_W1.out; have := sz_W1.out; have := as_W2.out; have := sz_W2.out; have := sz_w3.out; have := as_W4.out; have := sz_W4.out; have := as5.out; have := sz_W5.out; have := sz_w6.out; have := sz_W7.out; omega)
  have rsF_W8 : ∀ o, (W7.setCell ⟨w3.heap.size, 0, none⟩ (.slice (some ⟨w6.heap.size, 0, none⟩) 0 0)).frozen? ⟨w.heap.size + 1, o, none⟩ = false := fun o => frz_set1 ((rsF_W7 o))
  have rsL_W8 : w.heap.size + 1 < (W7.setCell ⟨w3.heap.size, 0, none⟩ (.slice (some ⟨w6.heap.size, 0, none⟩) 0 0)).heap.size := by simpa using rsL_W7
  have ouF_W8 : ∀ o, (W7.setCell ⟨w3.heap.size, 0, none⟩ (.slice (some ⟨w6.heap.size, 0, none⟩) 0 0)).frozen? ⟨w3.heap.size, o, none⟩ = false := fun o => frz_set1 ((ouF_W7 o))
  have ouL_W8 : w3.heap.size < (W7.setCell ⟨w3.heap.size, 0, none⟩ (.slice (some ⟨w6.heap.size, 0, none⟩) 0 0)).heap.size := by simpa using ouL_W7
  have oG_W8 : Hid (OwnG KAd 28 (W7.setCell ⟨w3.heap.size, 0, none⟩ (.slice (some ⟨w6.heap.size, 0, none⟩) 0 0)) (w3.heap.size + 1) (.slice (some ⟨w3.heap.size + 1, 0, none⟩) 0 0) ([])) := hidP (OwnG.grown (oG_W7.out) (grown_cellG _ _ _ _) (OwnG.ne_of oG_W7.out (by have := as_W1.out; have := sz_W1.out; have := as_W2.out; have := sz_W2.out; have := sz_w3.out; have := as_W4.out; have := sz_W4.out; have := as5.out; have := sz_W5.out; have := sz_w6.out; have := sz_W7.out; omega)))
  have acc_W8 : Hid (Below w.heap.size w (W7.setCell ⟨w3.heap.size, 0, none⟩ (.slice (some ⟨w6.heap.size, 0, none⟩) 0 0))) := hidP (Below.setCell (acc_W7.out) (by have := as_W1.out; have := sz_W1.out; have := as_W2.out; have := sz_W2.out; have := sz_w3.out; have := as_W4.out; have := sz_W4.out; have := as5.out; have := sz_W5.out; have := sz_w6.out; have := sz_W7.out; try dsimp only; omega) _)
  have sz_W8 : Hid ((W7.setCell ⟨w3.heap.size, 0, none⟩ (.slice (some ⟨w6.heap.size, 0, none⟩) 0 0)).heap.size = W7.heap.size) := hidP (by simp)
  generalize W7.setCell ⟨w3.heap.size, 0, none⟩ (.slice (some ⟨w6.heap.size, 0, none⟩) 0 0) = W8 at *
  clear ou0_W7 ou1_W7 ou2_W7 bk0_W7 bk1_W7 bk2_W7 bkF_W7 bkL_W7 rs0_W7 rs1_W7 rs2_W7 rsF_W7 rsL_W7 ouF_W7 ouL_W7 oG_W7 acc_W7
  have zS := own_zeroG KLs W8 W8.heap.size 35 (Nat.le_refl _)
  rw [sz_W8.out, sz_W7.out] at zS
  have ab9 := alloc_below W8 (.cells #[] 35)
  have as9 : Hid ((W8.alloc (.cells #[] 35)).heap.size = W8.heap.size + 1) := hidP (by simp)
  generalize W8.alloc (.cells #[] 35) = W9 at *
  have bk0_W9 := (ab9.cell bkL_W8).trans bk0_W8
  have bk1_W9 := (ab9.cell bkL_W8).trans bk1_W8
  have bk2_W9 := (ab9.cell bkL_W8).trans bk2_W8
  have bkF_W9 : ∀ o, W9.frozen? ⟨w.heap.size, o, none⟩ = false := fun o => (ab9.frozen bkL_W8).trans (bkF_W8 o)
  have bkL_W9 : w.heap.size < W9.heap.size := Nat.lt_of_lt_of_le bkL_W8 ab9.size
  have rs0_W9 := (ab9.cell rsL_W8).trans rs0_W8
  have rs1_W9 := (ab9.cell rsL_W8).trans rs1_W8
  have rs2_W9 := (ab9.cell rsL_W8).trans rs2_W8
  have rsF_W9 : ∀ o, W9.frozen? ⟨w.heap.size + 1, o, none⟩ = false := fun o => (ab9.frozen rsL_W8).trans (rsF_W8 o)
  have rsL_W9 : w.heap.size + 1 < W9.heap.size := Nat.lt_of_lt_of_le rsL_W8 ab9.size
  have ou0_W9 := (ab9.cell ouL_W8).trans ou0_W8
  have ou1_W9 := (ab9.cell ouL_W8).trans ou1_W8
  have ou2_W9 := (ab9.cell ouL_W8).trans ou2_W8
  have ouF_W9 : ∀ o, W9.frozen? ⟨w3.heap.size, o, none⟩ = false := fun o => (ab9.frozen ouL_W8).trans (ouF_W8 o)
  have ouL_W9 : w3.heap.size < W9.heap.size := Nat.lt_of_lt_of_le ouL_W8 ab9.size
  have oG_W9 := hidP (OwnG.later oG_W8.out ab9)
  have acc_W9 := hidP (acc_W8.out.trans (ab9.mono acc_W8.out.size))
  have sz_W9 : Hid (W8.heap.size ≤ W9.heap.size) := hidP ab9.size
  clear ab9 bk0_W8 bk1_W8 bk2_W8 bkF_W8 bkL_W8 rs0_W8 rs1_W8 rs2_W8 rsF_W8 rsL_W8 ou0_W8 ou1_W8 ou2_W8 ouF_W8 ouL_W8 oG_W8 acc_W8
  have oS_W9 := hidP (zS)
  clear zS
  have HQ : Hid (w3.heap.size + 1 ≤ w6.heap.size ∧ w3.heap.size ≤ W9.heap.size ∧ w3.heap.size + 1 < w6.heap.size ∧ w.heap.size + 1 < w3.heap.size ∧ w.heap.size < w3.heap.size) := hidP (by have := as_W1.out; have := sz_W1.out; have := as_W2.out; have := sz_W2.out; have := sz_w3.out; have := as_W4.out; have := sz_W4.out; have := as5.out; have := sz_W5.out; have := sz_w6.out; have := sz_W7.out; have := sz_W8.out; have := as9.out; have := sz_W9.out; omega)
  go_loopw [7, 8] (fun t7 t8 wr => ∃ (k p6 p7 : Nat) (a6 : Option Addr) (c6 : Nat) (a7 : Option Addr) (c7 : Nat), k ≤ n ∧ t8 = .int .i64 k ∧ t7 = .slice a6 p6 c6 ∧ p6 = (goneL now (ls.take k)).length ∧ p7 = (stayL now (ls.take k)).length ∧ OwnG KAd 28 wr (w3.heap.size + 1) (.slice a6 p6 c6) (goneL now (ls.take k)) ∧ OwnG KLs 35 wr (w3.heap.size + 1) (.slice a7 p7 c7) (stayL now (ls.take k)) ∧ (∀ j, (Value.slice a7 p7 c7).ownBlock = some j → (Value.slice a6 p6 c6).ownBlock ≠ some j) ∧ (wr.cell? ⟨w3.heap.size, 0, none⟩ = some (.slice a7 p7 c7) ∧ wr.cell? ⟨w3.heap.size, 1, none⟩ = some (.int .i64 T) ∧ wr.cell? ⟨w3.heap.size, 2, none⟩ = some (.int .i64 now) ∧ (∀ o, wr.frozen? ⟨w3.heap.size, o, none⟩ = false)) ∧ Below w3.heap.size W9 wr) (fun _ t8 _ => n - (intOf t8).toNat)
  case atStart => exact ⟨0, 0, 0, some ⟨w3.heap.size + 1, 0, none⟩, 0, some ⟨w6.heap.size, 0, none⟩, 0, Nat.zero_le _, rfl, rfl, rfl, rfl, oG_W9.out, oS_W9.out.mono HQ.out.1, (fun j hj he => by rw [ob_some, Option.some.injEq] at hj he; have := HQ.out; omega), ⟨ou0_W9, ou1_W9, ou2_W9, ouF_W9⟩, Below.refl _ _⟩
  case round =>
    obtain ⟨k, p6, p7, a6, c6, a7, c7, hk, rfl, rfl, hp6, hp7, ho6, ho7, hdj, ⟨v0, v1, v2, vF⟩, hbel⟩ := hrel
    have hsz8 := hbel.size
    have hGr : w3.heap.size ≤ wr.heap.size := Nat.le_trans HQ.out.2.1 hsz8
    have vL : w3.heap.size < wr.heap.size := World.block_lt_of_cell? wr _ v0
    have B0 := (hbel.cell HQ.out.2.2.2.2).trans bk0_W9
    have BL : w.heap.size < wr.heap.size := by have := HQ.out; omega
    have HBel := hidP hbel
    have HDj := hidP hdj
    have HP67 := hidP (And.intro hp6 hp7)
    have hp6k : p6 ≤ 80 := by rw [hp6]; have := (stay_len now (ls.take k)).2; rw [List.length_take] at this; omega
    have hp7k : p7 ≤ 80 := by rw [hp7]; have := (stay_len now (ls.take k)).1; rw [List.length_take] at this; omega
    have HO6 := hidP ho6
    have HO7 := hidP ho7
    have HV := hidP (And.intro v0 (And.intro v1 (And.intro v2 vF)))
    clear hp6 hp7 ho6 ho7 hdj
    by_cases hlt : k < n
    · have hwb := acc_W9.out.trans (hbel.mono (Nat.le_of_lt HQ.out.2.2.2.2))
      obtain ⟨p, o, q, rfl, hp0, hq, r0, r1, r2, r3, r4, r5⟩ := rowLs HR.out k (by rw [← HN.out]; exact hlt)
      have d0 := (hwb.cell hp0).trans r0
      have d1 := (hwb.cell hp0).trans r1
      have d2 := (hwb.cell hp0).trans r2
      have d3 := (hwb.cell hp0).trans r3
      have d4 := (hwb.cell hp0).trans r4
      have d5 := (hwb.cell hp0).trans r5
      have hpG : p < w3.heap.size := by have := HQ.out; omega
      have hpw : p < wr.heap.size := by omega
      have HPG := hidP hpG
      have HQk := hidP hq
      have k0 : (0 : Int) ≤ (k : Int) := by omega
      have k1 : (k : Int) < (n : Int) := by omega
      clear hq hbel hwb r0 r1 r2 r3 r4 r5
      cases hu : decide (now < q.u)
      · have hu2 : decide (q.u ≤ now) = true := by have := of_decide_eq_false hu; exact decide_eq_true (by omega)
        have HSt := hidP (stay_no HQk.out hu)
        have one := own_oneG KAd wr 0 28 q.a (Nat.zero_le _)
        have hB2 : Below wr.heap.size wr (wr.alloc (.cells #[.bool q.a.s, .int .i64 q.a.H.toInt, .int .i64 q.a.L.toInt] 28)) := alloc_below wr _
        have HZ := hidP (And.intro one (And.intro hB2 (And.intro (OwnG.later HO6.out hB2) (OwnG.later HO7.out hB2))))
        clear one hB2
        go_wp2_with (at_builtin; refine wpList_appG Tryz.tyAd _ rfl (.tmp 46) (.tmp 53) 43 rfl (w3.heap.size + 1) a6 p6 c6 1 (goneL now (ls.take k)) [q.a] (.slice (some ⟨wr.heap.size, 0, none⟩) 1 1) rfl HP67.out.1 rfl HZ.out.2.2.1 rfl (src_rowG Tryz.tyAd.1 1 1 (by show 0 < 3; omega) rfl HZ.out.1.row (fun h => by cases h)) (by omega) (by simp; omega) ?_; intro a9 c9 w9 ho9 hg9 ht9)
        have HA := hidP (And.intro ho9 (And.intro hg9 ht9))
        clear ho9 hg9 ht9
        go_roundw
        case rel =>
          have hz7 := fun j hj => (OwnG.lt HO7.out j hj).2
          have hne : ∀ j, (Value.slice a6 p6 c6).ownBlock = some j → j ≠ w3.heap.size := fun j hj he => by have h5 := (OwnG.lt HO6.out j hj).1; omega
          have hb2 := HZ.out.2.1
          refine ⟨k + 1, p6 + 1, p7, a9, c9, a7, c7, by omega, by go_num, rfl, ?_, ?_, ?_, ?_, ?_, ?_, ?_⟩
          · rw [HSt.out.2, List.length_append, ← HP67.out.1]; rfl
          · rw [HSt.out.1]; exact HP67.out.2
          · rw [HSt.out.2]; exact HA.out.1
          · rw [HSt.out.1]; exact OwnG.grown HZ.out.2.2.2 HA.out.2.1 (fun j hj he => HDj.out j hj he)
          · intro j h7 h6
            rcases HA.out.2.2 with h | h
            · rw [h] at h6
              exact HDj.out j h7 ((ob_len a6 p6 c6 (p6 + 1) c9).trans h6)
            · rw [h, ob_some, Option.some.injEq] at h6
              have h8 := hz7 j h7
              simp at h6
              omega
          · exact ⟨cell_grown HA.out.2.1 ((hb2.cell vL).trans HV.out.1) hne, cell_grown HA.out.2.1 ((hb2.cell vL).trans HV.out.2.1) hne, cell_grown HA.out.2.1 ((hb2.cell vL).trans HV.out.2.2.1) hne, fun o => frz_grown HA.out.2.1 (Nat.lt_of_lt_of_le vL hb2.size) ((hb2.frozen vL).trans (HV.out.2.2.2 o)) hne⟩
          · exact (HBel.out.trans (hb2.mono hGr)).grown HA.out.2.1 (by simp; omega) (fun j hj => by have h5 := (OwnG.lt HO6.out j hj).1; omega)
        case measure => simp [intOf]; omega
      · have hu2 : decide (q.u ≤ now) = false := by have := of_decide_eq_true hu; exact decide_eq_false (by omega)
        have HSt := hidP (stay_yes HQk.out hu)
        go_wp2_with fail
        have HSx : Hid (∀ x, Below w3.heap.size wr x → (x.cell? ⟨w.heap.size, 0, none⟩ = some (.slice (some ⟨p, o, none⟩) n c) ∧ x.cell? ⟨p, o + k * 6, none⟩ = some (.bool q.a.s) ∧ x.cell? ⟨p, o + k * 6 + 1, none⟩ = some (.int .i64 q.a.H.toInt) ∧ x.cell? ⟨p, o + k * 6 + 2, none⟩ = some (.int .i64 q.a.L.toInt) ∧ x.cell? ⟨p, o + k * 6 + 3, none⟩ = some (.string q.t) ∧ x.cell? ⟨p, o + k * 6 + 4, none⟩ = some (.int .i64 q.k) ∧ x.cell? ⟨p, o + k * 6 + 5, none⟩ = some (.int .i64 q.u) ∧ Below w3.heap.size wr x)) := hidP fun x h =>
          ⟨(h.cell HQ.out.2.2.2.2).trans B0, (h.cell HPG.out).trans d0, (h.cell HPG.out).trans d1, (h.cell HPG.out).trans d2, (h.cell HPG.out).trans d3, (h.cell HPG.out).trans d4, (h.cell HPG.out).trans d5, h⟩
        refine wp_region_held_drew (S := (fun x => x.cell? ⟨w.heap.size, 0, none⟩ = some (.slice (some ⟨p, o, none⟩) n c) ∧ x.cell? ⟨p, o + k * 6, none⟩ = some (.bool q.a.s) ∧ x.cell? ⟨p, o + k * 6 + 1, none⟩ = some (.int .i64 q.a.H.toInt) ∧ x.cell? ⟨p, o + k * 6 + 2, none⟩ = some (.int .i64 q.a.L.toInt) ∧ x.cell? ⟨p, o + k * 6 + 3, none⟩ = some (.string q.t) ∧ x.cell? ⟨p, o + k * 6 + 4, none⟩ = some (.int .i64 q.k) ∧ x.cell? ⟨p, o + k * 6 + 5, none⟩ = some (.int .i64 q.u) ∧ Below w3.heap.size wr x)) (by kernel_rfl) ?_ (fun hHeld => ?_)
        · try dsimp only
          exact HSx.out _ (Below.refl _ _).drew
        refine tkA 0 55 (v := ?_) rfl (by kernel_rfl) (fun _ _ _ h => h) (by rfl) ?_ (by assumption) ?_; rotate_left; · (intro w hSw; (try dsimp only at hSw); go_simp; try with_reducible rfl)
        simp only [Act.put, List.setIfInBounds_toArray, List.set_cons_zero, List.set_cons_succ]
        refine tkA 2 57 (v := ?_) rfl (by kernel_rfl) (fun _ _ _ h => h) (by rfl) ?_ (by assumption) ?_; rotate_left; · (intro w hSw; (try dsimp only at hSw); go_simp; try with_reducible rfl)
        simp only [Act.put, List.setIfInBounds_toArray, List.set_cons_zero, List.set_cons_succ]
        refine tkA 3 58 (v := ?_) rfl (by kernel_rfl) (fun _ _ _ h => h) (by rfl) ?_ (by assumption) ?_; rotate_left; · (intro w hSw; (try dsimp only at hSw); go_simp; try with_reducible rfl)
        simp only [Act.put, List.setIfInBounds_toArray, List.set_cons_zero, List.set_cons_succ]
        refine tkA 4 59 (v := ?_) rfl (by kernel_rfl) (fun _ _ _ h => h) (by rfl) ?_ (by assumption) ?_; rotate_left; · (intro w hSw; (try dsimp only at hSw); go_simp; try with_reducible rfl)
        simp only [Act.put, List.setIfInBounds_toArray, List.set_cons_zero, List.set_cons_succ]
        refine tkA 5 60 (v := ?_) rfl (by kernel_rfl) (fun _ _ _ h => h) (by rfl) ?_ (by assumption) ?_; rotate_left; · (intro w hSw; (try dsimp only at hSw); go_simp; try with_reducible rfl)
        simp only [Act.put, List.setIfInBounds_toArray, List.set_cons_zero, List.set_cons_succ]
        refine tkA 6 61 (v := ?_) rfl (by kernel_rfl) (fun _ _ _ h => h) (by rfl) ?_ (by assumption) ?_; rotate_left; · (intro w hSw; (try dsimp only at hSw); go_simp; try with_reducible rfl)
        simp only [Act.put, List.setIfInBounds_toArray, List.set_cons_zero, List.set_cons_succ]
        refine wpAnyH_ready (rs := [1, 7]) (by kernel_rfl) (by simp) ?_
        refine AllReadyH.cons rfl (fun K hK => ?_) (AllReadyH.cons rfl (fun K hK => ?_) AllReadyH.nil)
        · have v0d : wr.drew.cell? ⟨w3.heap.size, 0, none⟩ = some (.slice a7 p7 c7) := v0
          go_simp
          refine hK.out _ _ ?_ (fun hHeld => ?_)
          · try dsimp only
            exact HSx.out _ (Below.refl _ _).drew
          clear hK K
          refine wpAnyH_ready (rs := [7]) (by kernel_rfl) (by simp) ?_
          refine AllReadyH.cons rfl (fun K hK => ?_) AllReadyH.nil
          go_simp
          have one := own_oneG KLs wr 0 35 q (Nat.zero_le _)
          have zb := alloc_below wr (.cells #[.bool q.a.s, .int .i64 q.a.H.toInt, .int .i64 q.a.L.toInt, .string q.t, .int .i64 q.k, .int .i64 q.u] 35)
          have one : OwnG KLs 35 (wr.alloc (.cells #[.bool q.a.s, .int .i64 q.a.H.toInt, .int .i64 q.a.L.toInt, .string q.t, .int .i64 q.k, .int .i64 q.u] 35)).drew 0 (.slice (some ⟨wr.heap.size, 0, none⟩) 1 1) [q] := OwnG.drewG one
          have zb : Below wr.heap.size wr (wr.alloc (.cells #[.bool q.a.s, .int .i64 q.a.H.toInt, .int .i64 q.a.L.toInt, .string q.t, .int .i64 q.k, .int .i64 q.u] 35)).drew := zb.drew
          have v4 : (wr.alloc (.cells #[.bool q.a.s, .int .i64 q.a.H.toInt, .int .i64 q.a.L.toInt, .string q.t, .int .i64 q.k, .int .i64 q.u] 35)).drew.cell? ⟨w3.heap.size, 0, none⟩ = some (.slice a7 p7 c7) := (zb.cell vL).trans HV.out.1
          generalize (wr.alloc (.cells #[.bool q.a.s, .int .i64 q.a.H.toInt, .int .i64 q.a.L.toInt, .string q.t, .int .i64 q.k, .int .i64 q.u] 35)).drew = w4 at *
          refine hK.out _ _ ?_ (fun hHeld => ?_)
          · try dsimp only
            exact HSx.out _ (zb.mono hGr)
          clear hK K
          refine wpAnyH_ready (rs := [8]) (by kernel_rfl) (by simp) ?_
          refine AllReadyH.cons rfl (fun K hK => ?_) AllReadyH.nil
          have HZ := hidP (And.intro one (And.intro zb (And.intro (OwnG.later HO6.out zb) (OwnG.later HO7.out zb))))
          have hG4 : (w3.heap.size + 1) ≤ w4.heap.size := by have := zb.size; omega
          clear one zb
          refine step_appG Tryz.tyLs _ rfl (.tmp 56) (.tmp 62) 24 rfl (w3.heap.size + 1) a7 p7 c7 1 (stayL now (ls.take k)) [q] (.slice (some ⟨wr.heap.size, 0, none⟩) 1 1) rfl HP67.out.2 rfl HZ.out.2.2.2 rfl (src_rowG Tryz.tyLs.1 1 1 (by show 0 < 6; omega) rfl HZ.out.1.row (fun h => by cases h)) (by omega) hG4 ?_
          intro a9 c9 w9 ho9 hg9 ht9
          have hne : ∀ j, (Value.slice a7 p7 c7).ownBlock = some j → j ≠ w3.heap.size := fun j hj he => by have h5 := (OwnG.lt HO7.out j hj).1; omega
          have hb2 := HZ.out.2.1
          have x0 := cell_grown hg9 ((hb2.cell vL).trans HV.out.1) hne
          have x1 := cell_grown hg9 ((hb2.cell vL).trans HV.out.2.1) hne
          have x2 := cell_grown hg9 ((hb2.cell vL).trans HV.out.2.2.1) hne
          have xF : ∀ o, w9.frozen? ⟨w3.heap.size, o, none⟩ = false := fun o => frz_grown hg9 (Nat.lt_of_lt_of_le vL hb2.size) ((hb2.frozen vL).trans (HV.out.2.2.2 o)) hne
          have b9 : Below w3.heap.size wr w9 := (hb2.mono hGr).grown hg9 (by have := hb2.size; omega) (fun j hj => by have h5 := (OwnG.lt HO7.out j hj).1; omega)
          have HA := hidP (And.intro ho9 (And.intro hg9 (And.intro ht9 (And.intro b9 hb2.size))))
          clear ho9 hg9 ht9 hb2
          refine hK.out _ _ ?_ (fun hHeld => ?_)
          · try dsimp only
            exact HSx.out _ (b9)
          clear hK K
          refine tkA 9 64 (v := ?_) rfl (by kernel_rfl) (fun _ _ _ h => h) (by rfl) ?_ (by assumption) ?_; rotate_left; · (intro w hSw; (try dsimp only at hSw); go_simp; try with_reducible rfl)
          simp only [Act.put, List.setIfInBounds_toArray]
          refine wpAnyH_ready (rs := [10]) (by kernel_rfl) (by simp) ?_
          refine AllReadyH.cons rfl (fun K hK => ?_) AllReadyH.nil
          go_simp
          refine hK.out _ _ ?_ (fun hHeld => ?_)
          · try dsimp only
            exact HSx.out _ (b9.setCell (Nat.le_refl _) _)
          clear hK K
          refine wpAnyH_done (by kernel_rfl) ?_ _
          clear hHeld
          go_wp2_with fail
          go_roundw
          case rel =>
            have hz6 := fun j hj => (OwnG.lt HO6.out j hj).2
            have h9 := HA.out
            refine ⟨k + 1, p6, p7 + 1, a6, c6, a9, c9, by omega, by go_num, rfl, ?_, ?_, ?_, ?_, ?_, ?_, ?_⟩
            · rw [HSt.out.2]; exact HP67.out.1
            · rw [HSt.out.1, List.length_append, ← HP67.out.2]; rfl
            · rw [HSt.out.2]
              exact OwnG.grown (OwnG.grown HZ.out.2.2.1 h9.2.1 (fun j hj he => HDj.out j he hj)) (grown_cellG _ _ _ _) (OwnG.ne_of HO6.out (by omega))
            · rw [HSt.out.1]
              exact OwnG.grown h9.1 (grown_cellG _ _ _ _) (OwnG.ne_of h9.1 (by omega))
            · intro j h7 h6
              rcases h9.2.2.1 with h | h
              · rw [h] at h7
                exact HDj.out j ((ob_len a7 p7 c7 (p7 + 1) c9).trans h7) h6
              · rw [h, ob_some, Option.some.injEq] at h7
                have h8 := hz6 j h6
                have h10 := h9.2.2.2.2
                omega
            · exact ⟨by simp [go_sem, x0], cell_oth x1 (by omega), cell_oth x2 (by omega), fun o => frz_set1 (xF o)⟩
            · exact HBel.out.trans (h9.2.2.2.1.setCell (Nat.le_refl _) _)
          case measure => simp [intOf]; omega
        · go_simp
          have one := own_oneG KLs wr 0 35 q (Nat.zero_le _)
          have zb := alloc_below wr (.cells #[.bool q.a.s, .int .i64 q.a.H.toInt, .int .i64 q.a.L.toInt, .string q.t, .int .i64 q.k, .int .i64 q.u] 35)
          have one : OwnG KLs 35 (wr.alloc (.cells #[.bool q.a.s, .int .i64 q.a.H.toInt, .int .i64 q.a.L.toInt, .string q.t, .int .i64 q.k, .int .i64 q.u] 35)).drew 0 (.slice (some ⟨wr.heap.size, 0, none⟩) 1 1) [q] := OwnG.drewG one
          have zb : Below wr.heap.size wr (wr.alloc (.cells #[.bool q.a.s, .int .i64 q.a.H.toInt, .int .i64 q.a.L.toInt, .string q.t, .int .i64 q.k, .int .i64 q.u] 35)).drew := zb.drew
          have v4 : (wr.alloc (.cells #[.bool q.a.s, .int .i64 q.a.H.toInt, .int .i64 q.a.L.toInt, .string q.t, .int .i64 q.k, .int .i64 q.u] 35)).drew.cell? ⟨w3.heap.size, 0, none⟩ = some (.slice a7 p7 c7) := (zb.cell vL).trans HV.out.1
          generalize (wr.alloc (.cells #[.bool q.a.s, .int .i64 q.a.H.toInt, .int .i64 q.a.L.toInt, .string q.t, .int .i64 q.k, .int .i64 q.u] 35)).drew = w4 at *
          refine hK.out _ _ ?_ (fun hHeld => ?_)
          · try dsimp only
            exact HSx.out _ (zb.mono hGr)
          clear hK K
          refine wpAnyH_ready (rs := [1]) (by kernel_rfl) (by simp) ?_
          refine AllReadyH.cons rfl (fun K hK => ?_) AllReadyH.nil
          go_simp
          refine hK.out _ _ ?_ (fun hHeld => ?_)
          · try dsimp only
            exact HSx.out _ (zb.mono hGr)
          clear hK K
          refine wpAnyH_ready (rs := [8]) (by kernel_rfl) (by simp) ?_
          refine AllReadyH.cons rfl (fun K hK => ?_) AllReadyH.nil
          have HZ := hidP (And.intro one (And.intro zb (And.intro (OwnG.later HO6.out zb) (OwnG.later HO7.out zb))))
          have hG4 : (w3.heap.size + 1) ≤ w4.heap.size := by have := zb.size; omega
          clear one zb
          refine step_appG Tryz.tyLs _ rfl (.tmp 56) (.tmp 62) 24 rfl (w3.heap.size + 1) a7 p7 c7 1 (stayL now (ls.take k)) [q] (.slice (some ⟨wr.heap.size, 0, none⟩) 1 1) rfl HP67.out.2 rfl HZ.out.2.2.2 rfl (src_rowG Tryz.tyLs.1 1 1 (by show 0 < 6; omega) rfl HZ.out.1.row (fun h => by cases h)) (by omega) hG4 ?_
          intro a9 c9 w9 ho9 hg9 ht9
          have hne : ∀ j, (Value.slice a7 p7 c7).ownBlock = some j → j ≠ w3.heap.size := fun j hj he => by have h5 := (OwnG.lt HO7.out j hj).1; omega
          have hb2 := HZ.out.2.1
          have x0 := cell_grown hg9 ((hb2.cell vL).trans HV.out.1) hne
          have x1 := cell_grown hg9 ((hb2.cell vL).trans HV.out.2.1) hne
          have x2 := cell_grown hg9 ((hb2.cell vL).trans HV.out.2.2.1) hne
          have xF : ∀ o, w9.frozen? ⟨w3.heap.size, o, none⟩ = false := fun o => frz_grown hg9 (Nat.lt_of_lt_of_le vL hb2.size) ((hb2.frozen vL).trans (HV.out.2.2.2 o)) hne
          have b9 : Below w3.heap.size wr w9 := (hb2.mono hGr).grown hg9 (by have := hb2.size; omega) (fun j hj => by have h5 := (OwnG.lt HO7.out j hj).1; omega)
          have HA := hidP (And.intro ho9 (And.intro hg9 (And.intro ht9 (And.intro b9 hb2.size))))
          clear ho9 hg9 ht9 hb2
          refine hK.out _ _ ?_ (fun hHeld => ?_)
          · try dsimp only
            exact HSx.out _ (b9)
          clear hK K
          refine tkA 9 64 (v := ?_) rfl (by kernel_rfl) (fun _ _ _ h => h) (by rfl) ?_ (by assumption) ?_; rotate_left; · (intro w hSw; (try dsimp only at hSw); go_simp; try with_reducible rfl)
          simp only [Act.put, List.setIfInBounds_toArray]
          refine wpAnyH_ready (rs := [10]) (by kernel_rfl) (by simp) ?_
          refine AllReadyH.cons rfl (fun K hK => ?_) AllReadyH.nil
          go_simp
          refine hK.out _ _ ?_ (fun hHeld => ?_)
          · try dsimp only
            exact HSx.out _ (b9.setCell (Nat.le_refl _) _)
          clear hK K
          refine wpAnyH_done (by kernel_rfl) ?_ _
          clear hHeld
          go_wp2_with fail
          go_roundw
          case rel =>
            have hz6 := fun j hj => (OwnG.lt HO6.out j hj).2
            have h9 := HA.out
            refine ⟨k + 1, p6, p7 + 1, a6, c6, a9, c9, by omega, by go_num, rfl, ?_, ?_, ?_, ?_, ?_, ?_, ?_⟩
            · rw [HSt.out.2]; exact HP67.out.1
            · rw [HSt.out.1, List.length_append, ← HP67.out.2]; rfl
            · rw [HSt.out.2]
              exact OwnG.grown (OwnG.grown HZ.out.2.2.1 h9.2.1 (fun j hj he => HDj.out j he hj)) (grown_cellG _ _ _ _) (OwnG.ne_of HO6.out (by omega))
            · rw [HSt.out.1]
              exact OwnG.grown h9.1 (grown_cellG _ _ _ _) (OwnG.ne_of h9.1 (by omega))
            · intro j h7 h6
              rcases h9.2.2.1 with h | h
              · rw [h] at h7
                exact HDj.out j ((ob_len a7 p7 c7 (p7 + 1) c9).trans h7) h6
              · rw [h, ob_some, Option.some.injEq] at h7
                have h8 := hz6 j h6
                have h10 := h9.2.2.2.2
                omega
            · exact ⟨by simp [go_sem, x0], cell_oth x1 (by omega), cell_oth x2 (by omega), fun o => frz_set1 (xF o)⟩
            · exact HBel.out.trans (h9.2.2.2.1.setCell (Nat.le_refl _) _)
          case measure => simp [intOf]; omega
    · have hkn : k = n := by omega
      have HF6 : Hid (OwnG KAd 28 wr (w3.heap.size + 1) (.slice a6 p6 c6) (goneL now ls) ∧ OwnG KLs 35 wr (w3.heap.size + 1) (.slice a7 p7 c7) (stayL now ls) ∧ p6 = (goneL now ls).length ∧ p7 = (stayL now ls).length) := hidP (by
        have h6 := HO6.out; have h7 := HO7.out; have h8 := HP67.out
        rw [hkn, List.take_of_length_le (by have := HN.out; omega)] at h6 h7 h8
        exact ⟨h6, h7, h8.1, h8.2⟩)
      have qr0 := (hbel.cell HQ.out.2.2.2.1).trans rs0_W9
      have qr1 := (hbel.cell HQ.out.2.2.2.1).trans rs1_W9
      have qr2 := (hbel.cell HQ.out.2.2.2.1).trans rs2_W9
      have qrF : ∀ o, wr.frozen? ⟨w.heap.size + 1, o, none⟩ = false := fun o => (hbel.frozen HQ.out.2.2.2.1).trans (rsF_W9 o)
      have qM : w.heap.size + 1 < wr.heap.size := by have := HQ.out; omega
      have HAc := hidP (acc_W9.out.trans (hbel.mono (Nat.le_of_lt HQ.out.2.2.2.2)))
      clear hbel HO6 HO7 HP67 rs0_W9 rs1_W9 rs2_W9 rsF_W9
      go_wp2_with fail
      have HE := HF6.out
      obtain ⟨e6, e7, e8, e9⟩ := HE
      rw [e8] at e6
      rw [e9] at e7
      refine bodyPost_ret (v := .tuple #[.agg #[.slice a7 p7 c7, .int .i64 T, .int .i64 now], .slice a6 p6 c6]) (by simp [results, Tryz.results57, go_sem, qr0, qr1, qr2]) rfl ⟨a7, c7, a6, c6, by rw [e8, e9], ?_, ?_, ?_, ?_⟩
      · refine OwnG.mono (B := (w3.heap.size + 1)) ?_ (by have := HQ.out; omega)
        iterate 3 (with_reducible refine OwnG.grown ?_ (grown_cellG _ _ _ _) ?_; rotate_left; (focus (exact OwnG.ne_of e7 (by have := HQ.out; omega))))
        with_reducible exact e7
      · refine OwnG.mono (B := (w3.heap.size + 1)) ?_ (by have := HQ.out; omega)
        iterate 3 (with_reducible refine OwnG.grown ?_ (grown_cellG _ _ _ _) ?_; rotate_left; (focus (exact OwnG.ne_of e6 (by have := HQ.out; omega))))
        with_reducible exact e6
      · rw [← e8, ← e9]; exact HDj.out
      · repeat (with_reducible refine Below.setCell ?_ ?_ _; rotate_left; (focus (first | (simp; done) | (simp; omega))))
        exact HAc.out

end Go.Proofs.YtddnofonodgneaaGreatDoor
namespace Go.Proofs.YtddnofonodgneaaGreatDoor
open Go.RowKit

theorem OwnG.kp {α : Type} {K : Kd α} {t : TypeId} {c B : Nat} {X Y : World} {v : Value} {ps : List α} (h : OwnG K t X B v ps) (k : Kp c X Y) (hB : c < B) : OwnG K t Y B v ps := by
  refine ⟨h.1, ?_⟩
  rcases h.2 with h' | ⟨g, cc, cur, h1, h2, h3, h4⟩
  · exact Or.inl h'
  · refine Or.inr ⟨g, cc, cur, h1, h2, ?_, h4⟩
    have hgl : g < X.heap.size := by
      rcases Nat.lt_or_ge g X.heap.size with h' | h'
      · exact h'
      · rw [Array.getElem?_eq_none h'] at h3; cases h3
    exact (k.blk g hgl (by omega)).trans h3
def Sml (ls : List Ls) : Prop := ∀ q ∈ ls, q.t.size ≤ 100
theorem Sml.st {ls : List Ls} (h : Sml ls) : ∀ q ∈ ls, q.t.size ≤ 9223372036854775807 := fun q hq => by have := h q hq; omega
/-- W: the world at the draw's beginning; X: the world at hand; the result's box is W's first new block, the book's box its second; the leases lie behind them. -/
structure BkI (c : Nat) (a : Option Addr) (len cap : Nat) (W X : World) (b : Option Addr) (n d : Nat) (K N : Int) (ls : List Ls) : Prop where
  cur : Cur X c a len cap
  kp : Kp c W X
  hc : c < W.heap.size
  sz : W.heap.size + 2 ≤ X.heap.size
  r0 : X.cell? ⟨W.heap.size, 0, none⟩ = some (.slice none 0 0)
  r1 : X.cell? ⟨W.heap.size, 1, none⟩ = some (.int .i64 0)
  r2 : X.cell? ⟨W.heap.size, 2, none⟩ = some (.int .i64 0)
  rF : ∀ o, X.frozen? ⟨W.heap.size, o, none⟩ = false
  d0 : X.cell? ⟨W.heap.size + 1, 0, none⟩ = some (.slice b n d)
  d1 : X.cell? ⟨W.heap.size + 1, 1, none⟩ = some (.int .i64 K)
  d2 : X.cell? ⟨W.heap.size + 1, 2, none⟩ = some (.int .i64 N)
  dF : ∀ o, X.frozen? ⟨W.heap.size + 1, o, none⟩ = false
  own : OwnG KLs 35 X (W.heap.size + 2) (.slice b n d) ls
  few : n ≤ 100
  sml : Sml ls
theorem BkI.keep {c : Nat} {a : Option Addr} {len cap : Nat} {W X : World} {b : Option Addr} {n d : Nat} {K N : Int} {ls : List Ls} {Y : World} (h : BkI c a len cap W X b n d K N ls) (hC : Cur Y c a len cap) (k : Kp c X Y) : BkI c a len cap W Y b n d K N ls := by
  have h1 := h.hc; have h2 := h.sz; have h3 := k.big
  exact ⟨hC, h.kp.trans k, h.hc, by omega, (k.cel _ _ (by omega) (by omega)).trans h.r0, (k.cel _ _ (by omega) (by omega)).trans h.r1, (k.cel _ _ (by omega) (by omega)).trans h.r2, fun o => (k.frz _ _ (by omega) (by omega)).trans (h.rF o), (k.cel _ _ (by omega) (by omega)).trans h.d0, (k.cel _ _ (by omega) (by omega)).trans h.d1, (k.cel _ _ (by omega) (by omega)).trans h.d2, fun o => (k.frz _ _ (by omega) (by omega)).trans (h.dF o), h.own.kp k (by omega), h.few, h.sml⟩
theorem BkI.below {c : Nat} {a : Option Addr} {len cap : Nat} {W X : World} {b : Option Addr} {n d : Nat} {K N : Int} {ls : List Ls} {Y : World} (h : BkI c a len cap W X b n d K N ls) (k : Below X.heap.size X Y) : BkI c a len cap W Y b n d K N ls :=
  h.keep (h.cur.grew k) (Kp.of_below h.cur.lt k)
theorem BkI.drew {c : Nat} {a : Option Addr} {len cap : Nat} {W X : World} {b : Option Addr} {n d : Nat} {K N : Int} {ls : List Ls} (h : BkI c a len cap W X b n d K N ls) : BkI c a len cap W X.drew b n d K N ls := h.below (Below.refl _ _).drew
/-- What turns only blocks that are newer than the boxes, and not the row, keeps it. -/
theorem BkI.far {c : Nat} {a : Option Addr} {len cap : Nat} {W X : World} {b : Option Addr} {n d : Nat} {K N : Int} {ls : List Ls} {x o : Nat} (h : BkI c a len cap W X b n d K N ls) (hx : W.heap.size + 2 ≤ x) (hr : ∀ k, (Value.slice b n d).ownBlock = some k → k ≠ x) (v : Value) : BkI c a len cap W (X.setCell ⟨x, o, none⟩ v) b n d K N ls := by
  have h1 := h.hc; have h2 := h.sz
  exact ⟨h.cur.far (by omega) _, h.kp.setNew h.hc (by omega) _, h.hc, by simpa using h.sz, cell_set1 h.r0 (by omega), cell_set1 h.r1 (by omega), cell_set1 h.r2 (by omega), fun o => frz_set1 (h.rF o), cell_set1 h.d0 (by omega), cell_set1 h.d1 (by omega), cell_set1 h.d2 (by omega), fun o => frz_set1 (h.dF o), OwnG.grown h.own (grown_cellG _ _ _ _) (fun k hk e => hr k hk (by simpa using e.symm)), h.few, h.sml⟩
/-- A new book comes into the box. -/
theorem BkI.put {c : Nat} {a : Option Addr} {len cap : Nat} {W X : World} {b : Option Addr} {n d : Nat} {K N : Int} {ls : List Ls} (h : BkI c a len cap W X b n d K N ls) {b' : Option Addr} {n' d' : Nat} {K' N' : Int} {ls' : List Ls} {B : Nat} (hB : W.heap.size + 2 ≤ B) (ho : OwnG KLs 35 X B (.slice b' n' d') ls') (hn : n' ≤ 100) (hs : Sml ls') :
    BkI c a len cap W (((X.setCell ⟨W.heap.size + 1, 0, none⟩ (.slice b' n' d')).setCell ⟨W.heap.size + 1, 1, none⟩ (.int .i64 K')).setCell ⟨W.heap.size + 1, 2, none⟩ (.int .i64 N')) b' n' d' K' N' ls' := by
  have h1 := h.hc; have h2 := h.sz
  refine ⟨((h.cur.far (by omega) _).far (by omega) _).far (by omega) _, ?_, h.hc, by simpa using h.sz, cell_set1 (cell_set1 (cell_set1 h.r0 (by omega)) (by omega)) (by omega), cell_set1 (cell_set1 (cell_set1 h.r1 (by omega)) (by omega)) (by omega), cell_set1 (cell_set1 (cell_set1 h.r2 (by omega)) (by omega)) (by omega), fun o => frz_set1 (frz_set1 (frz_set1 (h.rF o))), by simp [go_sem, h.d0], by simp [go_sem, h.d1], by simp [go_sem, h.d2], fun o => frz_set1 (frz_set1 (frz_set1 (h.dF o))), ?_, hn, hs⟩
  · exact ((h.kp.setNew h.hc (by omega) _).setNew h.hc (by omega) _).setNew h.hc (by omega) _
  · exact OwnG.mono (OwnG.grown (OwnG.grown (OwnG.grown ho (grown_cellG _ _ _ _) (OwnG.ne_of ho (by omega))) (grown_cellG _ _ _ _) (OwnG.ne_of ho (by omega))) (grown_cellG _ _ _ _) (OwnG.ne_of ho (by omega))) hB
theorem BkI.fin {c : Nat} {a : Option Addr} {len cap : Nat} {W X : World} {b : Option Addr} {n d : Nat} {K N : Int} {ls : List Ls} (h : BkI c a len cap W X b n d K N ls) (u v x : Value) :
    Cur (((X.setCell ⟨W.heap.size, 0, none⟩ u).setCell ⟨W.heap.size, 1, none⟩ v).setCell ⟨W.heap.size, 2, none⟩ x) c a len cap ∧ Kp c W (((X.setCell ⟨W.heap.size, 0, none⟩ u).setCell ⟨W.heap.size, 1, none⟩ v).setCell ⟨W.heap.size, 2, none⟩ x) ∧ OwnG KLs 35 (((X.setCell ⟨W.heap.size, 0, none⟩ u).setCell ⟨W.heap.size, 1, none⟩ v).setCell ⟨W.heap.size, 2, none⟩ x) W.heap.size (.slice b n d) ls := by
  have h1 := h.hc; have h2 := h.sz
  exact ⟨((h.cur.far (by omega) _).far (by omega) _).far (by omega) _, ((h.kp.setNew h.hc (by omega) _).setNew h.hc (by omega) _).setNew h.hc (by omega) _, OwnG.mono (OwnG.grown (OwnG.grown (OwnG.grown h.own (grown_cellG _ _ _ _) (OwnG.ne_of h.own (by omega))) (grown_cellG _ _ _ _) (OwnG.ne_of h.own (by omega))) (grown_cellG _ _ _ _) (OwnG.ne_of h.own (by omega))) (by omega)⟩

set_option maxHeartbeats 1000000 in
theorem l1StrP_any (P : ByteArray → Prop) (c : Nat) (a : Option Addr) (len cap : Nat) (q k : Nat) (W : World) (hC : Cur W c a len cap) (hk : 0 < k) (hk1 : k ≤ 100) (hq : q < W.heap.size) (hqc : q ≠ c) (hv : ∀ j, j < k → ∃ z : ByteArray, P z ∧ W.cell? ⟨q, j, none⟩ = some (.string z)) :
    Calls Tryz.prog 22 #[.pointer (some ⟨c, 0, none⟩), .slice (some ⟨q, 0, none⟩) k k] W fun e W' => (∃ z : ByteArray, P z ∧ e = .returned (.string z)) ∧ Cur W' c a len cap ∧ Kp c W W' := by
  have HC : Hid (Cur W c a len cap) := hC
  have HV : Hid (∀ j, j < k → ∃ z : ByteArray, P z ∧ W.cell? ⟨q, j, none⟩ = some (.string z)) := hv
  clear hC hv
  go_enter Tryz.func22, Tryz.ntmps22
  go_wp2_with fail
  refine (l1Below_any c a len cap k _ HC.out).mono ?_
  rintro e W1 ⟨⟨x, x0, x9, rfl⟩, hC1, hK1⟩
  obtain ⟨j, rfl⟩ : ∃ j : Nat, x = (j : Int) := ⟨x.toNat, by omega⟩
  have hj : j < k := by omega
  obtain ⟨z, hz, hc⟩ := HV.out j hj
  have cv : W1.cell? ⟨q, j, none⟩ = some (.string z) := (hK1.cel q j hq hqc).trans hc
  have HZ := hidP hz
  have HK : Hid (Kp c W W1) := hK1
  have HC1 : Hid (Cur W1 c a len cap) := hC1
  clear hK1 hC1 x9 x0 hc hz
  go_wp2_with fail
  go_ret
  exact ⟨⟨z, HZ.out, rfl⟩, HC1.out, HK.out⟩

set_option maxHeartbeats 1000000 in
theorem l1Size_any (a : Option Addr) (len cap : Nat) (m : Int) (h3 : 3 ≤ m) (hl : len ≤ 1048576) (w : World) :
    Calls Tryz.prog 19 #[.slice a len cap, .int .i64 m] w fun e w' => (∃ x : Int, 0 < x ∧ x ≤ m ∧ e = .returned (.int .i64 x)) ∧ w' = w := by
  obtain ⟨z, hz⟩ : ∃ z : Int, (len : Int) / 12 = z := ⟨_, rfl⟩
  have hz0 : 0 ≤ z := by omega
  have hz9 : z ≤ 1000000 := by omega
  cases hd : decide (m < 3 + z)
  · have hd' := of_decide_eq_false hd
    go_enter Tryz.func19, Tryz.ntmps19
    go_wp2_with fail
    go_ret
    exact ⟨⟨3 + z, by omega, by omega, rfl⟩, rfl⟩
  · go_enter Tryz.func19, Tryz.ntmps19
    go_wp2_with fail
    go_ret
    exact ⟨⟨m, by omega, by omega, rfl⟩, rfl⟩

theorem cellsO (w : World) (t : TypeId) : ∀ j, j < 5 → ∃ z : ByteArray, z.size ≤ 100 ∧ (w.alloc (.cells #[.string ⟨#[97]⟩, .string ⟨#[98, 111, 98]⟩, .string ⟨#[110, 111, 100, 101, 45, 49]⟩, .string ⟨#[110, 111, 100, 101, 45, 50]⟩, .string ⟨#[97, 98, 99, 100, 101, 102, 103, 104, 105, 106, 107, 108]⟩] t)).cell? ⟨w.heap.size, j, none⟩ = some (.string z) := fun j hj => by
  match j, hj with
  | 0, _ => exact ⟨⟨#[97]⟩, by show 1 ≤ 100; omega, by simp [go_sem]⟩
  | 1, _ => exact ⟨⟨#[98, 111, 98]⟩, by show 3 ≤ 100; omega, by simp [go_sem]⟩
  | 2, _ => exact ⟨⟨#[110, 111, 100, 101, 45, 49]⟩, by show 6 ≤ 100; omega, by simp [go_sem]⟩
  | 3, _ => exact ⟨⟨#[110, 111, 100, 101, 45, 50]⟩, by show 6 ≤ 100; omega, by simp [go_sem]⟩
  | 4, _ => exact ⟨⟨#[97, 98, 99, 100, 101, 102, 103, 104, 105, 106, 107, 108]⟩, by show 12 ≤ 100; omega, by simp [go_sem]⟩
set_option maxHeartbeats 1000000 in
theorem l5Owner_any (c : Nat) (a : Option Addr) (len cap : Nat) (W : World) (hC : Cur W c a len cap) :
    Calls Tryz.prog 59 #[.pointer (some ⟨c, 0, none⟩)] W fun e W' => (∃ z : ByteArray, z.size ≤ 100 ∧ e = .returned (.string z)) ∧ Cur W' c a len cap ∧ Kp c W W' := by
  have HC := hidP hC
  have hcl := hC.lt
  clear hC
  go_enter Tryz.func59, Tryz.ntmps59
  go_wp2_with fail
  have zb := alloc_below W (.cells #[.string ⟨#[97]⟩, .string ⟨#[98, 111, 98]⟩, .string ⟨#[110, 111, 100, 101, 45, 49]⟩, .string ⟨#[110, 111, 100, 101, 45, 50]⟩, .string ⟨#[97, 98, 99, 100, 101, 102, 103, 104, 105, 106, 107, 108]⟩] 9)
  have zl := alloc_lt W (.cells #[.string ⟨#[97]⟩, .string ⟨#[98, 111, 98]⟩, .string ⟨#[110, 111, 100, 101, 45, 49]⟩, .string ⟨#[110, 111, 100, 101, 45, 50]⟩, .string ⟨#[97, 98, 99, 100, 101, 102, 103, 104, 105, 106, 107, 108]⟩] 9)
  have zc := cellsO W 9
  have HB := hidP zb
  have HC2 := hidP (HC.out.grew zb)
  generalize W.alloc (.cells #[.string ⟨#[97]⟩, .string ⟨#[98, 111, 98]⟩, .string ⟨#[110, 111, 100, 101, 45, 49]⟩, .string ⟨#[110, 111, 100, 101, 45, 50]⟩, .string ⟨#[97, 98, 99, 100, 101, 102, 103, 104, 105, 106, 107, 108]⟩] 9) = W2 at *
  refine (l1StrP_any (fun z => z.size ≤ 100) c a len cap W.heap.size 5 _ HC2.out (by omega) (by omega) zl (by omega) zc).mono ?_
  rintro e W3 ⟨⟨z, hz, rfl⟩, hC3, hK3⟩
  have HR := hidP (And.intro hz (And.intro hC3 hK3))
  clear hz hC3 hK3 zb zl zc
  go_wp2_with fail
  go_ret
  exact ⟨⟨z, HR.out.1, rfl⟩, HR.out.2.1, (Kp.of_below hcl HB.out).trans HR.out.2.2⟩
set_option maxHeartbeats 1000000 in
theorem l6Addr_any (c : Nat) (a : Option Addr) (len cap : Nat) (W : World) (hC : Cur W c a len cap) :
    Calls Tryz.prog 21 #[.pointer (some ⟨c, 0, none⟩)] W fun e W' => (∃ ad : Ad, e = .returned (.agg #[.bool ad.s, .int .i64 ad.H.toInt, .int .i64 ad.L.toInt])) ∧ Cur W' c a len cap ∧ Kp c W W' := by
  have HC := hidP hC
  have hcl := hC.lt
  clear hC
  go_enter Tryz.func21, Tryz.ntmps21
  go_wp2_with fail
  have zb := alloc_below W (.cells #[.bool false, .int .i64 0, .int .i64 0] 28)
  have zl := alloc_lt W (.cells #[.bool false, .int .i64 0, .int .i64 0] 28)
  obtain ⟨q0, q1, q2⟩ := box3B W 28 (.bool false) (.int .i64 0) (.int .i64 0)
  have qF := frz3 W 28 (.bool false) (.int .i64 0) (.int .i64 0)
  have HB := hidP zb
  have HC2 := hidP (HC.out.grew zb)
  generalize W.alloc (.cells #[.bool false, .int .i64 0, .int .i64 0] 28) = W2 at *
  refine (l1Below_any c a len cap 10 _ HC2.out).mono ?_
  rintro e W3 ⟨⟨x, x0, x9, rfl⟩, hC3, hK3⟩
  have x9' := x9 (by omega)
  have wx : IntKind.i64.wrap (167772160 + x) = 167772160 + x := by rw [IntKind.wrap_i64]; omega
  have p0 := (hK3.cel _ 0 zl (by omega)).trans q0
  have p1 := (hK3.cel _ 1 zl (by omega)).trans q1
  have p2 := (hK3.cel _ 2 zl (by omega)).trans q2
  have pF : ∀ o, W3.frozen? ⟨W.heap.size, o, none⟩ = false := fun o => (hK3.frz _ _ zl (by omega)).trans (qF o)
  have HR := hidP (And.intro hC3 ((Kp.of_below hcl HB.out).trans hK3))
  have hi : (BitVec.ofInt 64 (167772160 + x)).toInt = 167772160 + x := by
    rw [BitVec.toInt_ofInt]
    exact Int.bmod_eq_of_le (by omega) (by omega)
  have HI := hidP hi
  clear hC3 hK3 q0 q1 q2 qF zb zl x9 hi
  go_wp2_with fail
  refine bodyPost_ret (v := .agg #[.bool false, .int .i64 0, .int .i64 (167772160 + x)]) (by simp [results, Tryz.results21, go_sem, p0, p1, p2]) rfl ⟨⟨⟨false, 0, BitVec.ofInt 64 (167772160 + x)⟩, by simp [HI.out]⟩, ?_, ?_⟩
  · exact ((HR.out.1.far (by omega) _).far (by omega) _).far (by omega) _
  · exact ((HR.out.2.setNew hcl (Nat.le_refl _) _).setNew hcl (Nat.le_refl _) _).setNew hcl (Nat.le_refl _) _

theorem sml_sub {ls ls' : List Ls} (h : Sml ls) (hs : ∀ q ∈ ls', q ∈ ls) : Sml ls' := fun q hq => h q (hs q hq)
theorem sAdv12 (b : Option Addr) (n d : Nat) (K N : Int) (ls : List Ls) (w : World) (hn : n = ls.length) (hB : RowG KLs w b ls) (hc : b = none → d = 0) (h80 : n ≤ 80) (hs : Sml ls) (now : Int) :
    Calls Tryz.prog 57 #[.agg #[.slice b n d, .int .i64 K, .int .i64 N], .int .i64 now] w fun e w' => ∃ b' n' d' N' ls' v, e = .returned (.tuple #[.agg #[.slice b' n' d', .int .i64 K, .int .i64 N'], v]) ∧ OwnG KLs 35 w' w.heap.size (.slice b' n' d') ls' ∧ n' ≤ 80 ∧ Sml ls' ∧ Below w.heap.size w w' := by
  cases hr : (bkB ls K N && (decide (N < now) && decide (now ≤ 1000000000)))
  · exact (sAdv_no b n d K N ls w hn hB hc (by omega) hs.st now hr).mono fun e w' ⟨a', c', _, _, h1, h2, _, _, h5⟩ => ⟨a', n, c', N, ls, _, h1, h2, h80, hs, h5⟩
  · refine (sAdv_yes b n d K N ls w hn hB hc (by omega) hs.st now hr).mono fun e w' ⟨a', c', _, _, h1, h2, _, _, h5⟩ => ⟨a', _, c', now, _, _, h1, h2, ?_, sml_sub hs (fun q hq => (List.mem_filter.1 hq).1), h5⟩
    have := (stay_len now ls).1
    omega
theorem sRel12 (b : Option Addr) (n d : Nat) (K N : Int) (ls : List Ls) (w : World) (hn : n = ls.length) (hB : RowG KLs w b ls) (hc : b = none → d = 0) (h80 : n ≤ 80) (hs : Sml ls) (hnd : n ≤ d) (hd : d ≤ 9223372036854775807) (hbs : ∀ (_ : 0 < n), ∃ g, b = some ⟨g, 0, none⟩) (ad : Ad) (tk : Int) :
    Calls Tryz.prog 58 #[.agg #[.slice b n d, .int .i64 K, .int .i64 N], .agg #[.bool ad.s, .int .i64 ad.H.toInt, .int .i64 ad.L.toInt], .int .i64 tk] w fun e w' => ∃ b' n' d' ls' x, e = .returned (.tuple #[.agg #[.slice b' n' d', .int .i64 K, .int .i64 N], .int .i64 x]) ∧ OwnG KLs 35 w' w.heap.size (.slice b' n' d') ls' ∧ n' ≤ 80 ∧ Sml ls' ∧ Below w.heap.size w w' := by
  cases hr : (bkB ls K N && ad.ok)
  · exact (sRel_form b n d K N ls ad tk w hn hB (by omega) hc hs.st hr).mono fun e w' ⟨a', c', h1, h2, h3⟩ => ⟨a', n, c', ls, 10, h1, h2, h80, hs, h3⟩
  · cases hx : fxL ls ad with
    | none => exact (sRel_code b n d K N ls ad tk w hn hB (by omega) hc hs.st hr 13 (by omega) (fun W' hb => l6Held_none b n d K N ls ad tk W' hn (hB.later hb) (by omega) hx)).mono fun e w' ⟨a', c', h1, h2, h3⟩ => ⟨a', n, c', ls, 13, h1, h2, h80, hs, h3⟩
    | some I =>
      obtain ⟨q, hq, _, hI⟩ := fx_at hx
      by_cases hk : q.k = tk
      · obtain ⟨g, rfl⟩ := hbs (by omega)
        have hsub : ∀ x ∈ ls.eraseIdx I, x ∈ ls := fun x hx => List.mem_of_mem_eraseIdx hx
        by_cases hcj : d = I + 1
        · have hnI : n = I + 1 := by omega
          have hdn : d = n := by omega
          subst hdn
          exact (sRel_yes0 g d K N ls ad tk w hn hB (by omega) hs.st hr I (by omega) hnI (fun W' hb => l6Held_yes _ d d K N ls ad tk W' hn (hB.later hb) (by omega) I q hx hq hk)).mono fun e w' ⟨a', c', h1, h2, h3⟩ => ⟨a', d - 1, c', _, 0, h1, h2, by omega, sml_sub hs hsub, h3⟩
        · exact (sRel_yes1 g n d K N ls ad tk w hn hB (by omega) hs.st hr I (by omega) hnd hd hcj (fun W' hb => l6Held_yes _ n d K N ls ad tk W' hn (hB.later hb) (by omega) I q hx hq hk)).mono fun e w' ⟨a', c', h1, h2, h3⟩ => ⟨a', n - 1, c', _, 0, h1, h2, by omega, sml_sub hs hsub, h3⟩
      · exact (sRel_code b n d K N ls ad tk w hn hB (by omega) hc hs.st hr 14 (by omega) (fun W' hb => l6Held_fence b n d K N ls ad tk W' hn (hB.later hb) (by omega) I q hx hq hk)).mono fun e w' ⟨a', c', h1, h2, h3⟩ => ⟨a', n, c', ls, 14, h1, h2, h80, hs, h3⟩
theorem sGr12 (b : Option Addr) (n d : Nat) (K N : Int) (ls : List Ls) (w : World) (hn : n = ls.length) (hB : RowG KLs w b ls) (hc : b = none → d = 0) (h80 : n ≤ 80) (hs : Sml ls) (ad : Ad) (own : ByteArray) (ho : own.size ≤ 100) (span : Int) :
    Calls Tryz.prog 8 #[.agg #[.slice b n d, .int .i64 K, .int .i64 N], .agg #[.bool ad.s, .int .i64 ad.H.toInt, .int .i64 ad.L.toInt], .string own, .int .i64 span] w fun e w' => ∃ b' n' d' K' ls' x y, e = .returned (.tuple #[.agg #[.slice b' n' d', .int .i64 K', .int .i64 N], .int .i64 x, .int .i64 y]) ∧ OwnG KLs 35 w' w.heap.size (.slice b' n' d') ls' ∧ n' ≤ 80 ∧ Sml ls' ∧ Below w.heap.size w w' := by
  have hos : own.size ≤ 9223372036854775807 := by omega
  cases hr : gokB ls K N ad own span
  · exact (sGr_form b n d K N ls ad own span w hn hB (by omega) hc hs.st hos hr).mono fun e w' ⟨a', c', h1, h2, h3⟩ => ⟨a', n, c', K, ls, 0, 10, h1, h2, h80, hs, h3⟩
  · have hr0 := hr
    unfold gokB at hr0
    simp only [Bool.and_eq_true] at hr0
    cases hx : fxL ls ad with
    | some I => exact (sGr_held b n d K N ls ad own span w hn hB (by omega) hc hs.st hos hr I hx).mono fun e w' ⟨a', c', h1, h2, h3⟩ => ⟨a', n, c', K, ls, 0, 11, h1, h2, h80, hs, h3⟩
    | none =>
      by_cases hn80 : n = 80
      · exact (sGr_many b n d K N ls ad own span w hn hB (by omega) hc hs.st hos hr hx hn80).mono fun e w' ⟨a', c', h1, h2, h3⟩ => ⟨a', n, c', K, ls, 0, 12, h1, h2, h80, hs, h3⟩
      · obtain ⟨I, hI⟩ := low_ex (ad := ad) (srt_bk hr0.1).1
        refine (sGr_yes b n d K N ls ad own span w hn hB (by omega) hc hs.st hos hr hx (by omega) I hI).mono fun e w' ⟨a', c', h1, h2, h3⟩ => ⟨a', n + 1, c', K + 1, _, K + 1, 0, h1, h2, by omega, fun q hq => ?_, h3⟩
        rcases List.mem_append.1 hq with hq | hq
        · rcases List.mem_append.1 hq with hq | hq
          · exact hs q (List.mem_of_mem_take hq)
          · rw [List.mem_singleton] at hq; subst hq; exact ho
        · exact hs q (List.mem_of_mem_drop hq)

end Go.Proofs.YtddnofonodgneaaGreatDoor
