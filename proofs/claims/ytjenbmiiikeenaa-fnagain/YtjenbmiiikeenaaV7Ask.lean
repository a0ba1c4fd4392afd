/-
  The two Ask.
-/
import Derived.Test.YtjenbmiiikeenaaV7Fnd
namespace Go.Proofs.Ytjenbmiiikeenaa
open Go.RowKit

set_option maxRecDepth 10000 in
set_option maxHeartbeats 2000000 in
theorem iAsk_form (a : Option Addr) (n c : Nat) (N : Int) (ls : List Ss) (w : World) (hn : n = ls.length) (hB : RowG KSs w a ls) (hl : n ≤ 1048576) (id s : Int) (hr : dkB ls N = false) :
    Calls Try.prog 11 #[.agg #[.slice a n c, .int .i64 N], .int .i64 id, .int .i64 s] w fun e w' => e = .returned (.tuple #[.int .i64 4, .string ⟨#[]⟩]) ∧ Below w.heap.size w w' := by
  have HS := hidP (fun W (h : Below w.heap.size w W) b0 b1 => session_form w.heap.size a n c N ls W hn (hB.later h) hl b0 b1 id hr)
  clear hB hn
  go_enter Try.func11, Try.ntmps11
  go_wp2_with fail
  obtain ⟨b0, b1⟩ := box2D w 26 (.slice a n c) (.int .i64 N)
  have bB := alloc_below w (.cells #[.slice a n c, .int .i64 N] 26)
  have bL := alloc_lt w (.cells #[.slice a n c, .int .i64 N] 26)
  have bS : (w.alloc (.cells #[.slice a n c, .int .i64 N] 26)).heap.size = w.heap.size + 1 := by simp
  generalize w.alloc (.cells #[.slice a n c, .int .i64 N] 26) = W1 at *
  have HU := hidP bB
  clear bB bS
  refine (HS.out _ HU.out b0 b1).mono ?_
  rintro e w2 ⟨rfl, hb2⟩
  have HB2 := hidP hb2
  clear hb2
  go_wp2_with fail
  refine bodyPost_ret (v := .tuple #[.int .i64 4, .string ⟨#[]⟩]) (by simp [results, Try.results11, go_sem]) rfl ⟨rfl, HU.out.trans (HB2.out.mono HU.out.size)⟩

set_option maxRecDepth 10000 in
set_option maxHeartbeats 2000000 in
theorem iAsk_none (a : Option Addr) (n c : Nat) (N : Int) (ls : List Ss) (w : World) (hn : n = ls.length) (hB : RowG KSs w a ls) (hl : n ≤ 1048576) (id s : Int) (hr : dkB ls N = true) (hf : findS id ls = none) :
    Calls Try.prog 11 #[.agg #[.slice a n c, .int .i64 N], .int .i64 id, .int .i64 s] w fun e w' => e = .returned (.tuple #[.int .i64 4, .string ⟨#[]⟩]) ∧ Below w.heap.size w w' := by
  have HS := hidP (fun W (h : Below w.heap.size w W) (bL : w.heap.size < W.heap.size) b0 b1 => session_none w.heap.size a n c N ls W hn (hB.later h) hl bL b0 b1 id hr hf)
  clear hB hn
  go_enter Try.func11, Try.ntmps11
  go_wp2_with fail
  obtain ⟨b0, b1⟩ := box2D w 26 (.slice a n c) (.int .i64 N)
  have bB := alloc_below w (.cells #[.slice a n c, .int .i64 N] 26)
  have bL := alloc_lt w (.cells #[.slice a n c, .int .i64 N] 26)
  have bS : (w.alloc (.cells #[.slice a n c, .int .i64 N] 26)).heap.size = w.heap.size + 1 := by simp
  generalize w.alloc (.cells #[.slice a n c, .int .i64 N] 26) = W1 at *
  have HU := hidP bB
  clear bB bS
  refine (HS.out _ HU.out bL b0 b1).mono ?_
  rintro e w2 ⟨rfl, hb2⟩
  have HB2 := hidP hb2
  clear hb2
  go_wp2_with fail
  refine bodyPost_ret (v := .tuple #[.int .i64 4, .string ⟨#[]⟩]) (by simp [results, Try.results11, go_sem]) rfl ⟨rfl, HU.out.trans (HB2.out.mono HU.out.size)⟩

set_option maxRecDepth 10000 in
set_option maxHeartbeats 2000000 in
theorem iAsk_yes (a : Option Addr) (n c : Nat) (N : Int) (ls : List Ss) (w : World) (hn : n = ls.length) (hB : RowG KSs w a ls) (hl : n ≤ 1048576) (id s : Int) (hr : dkB ls N = true) (I : Nat) (hf : findS id ls = some I) (q : Ss) (hq : ls[I]? = some q) :
    Calls Try.prog 11 #[.agg #[.slice a n c, .int .i64 N], .int .i64 id, .int .i64 s] w fun e w' => e = .returned (.tuple #[.int .i64 (askN q.l s), .string (askT q s)]) ∧ Below w.heap.size w w' := by
  have HS := hidP (fun W (h : Below w.heap.size w W) (bL : w.heap.size < W.heap.size) b0 b1 => session_some w.heap.size a n c N ls W hn (hB.later h) hl bL b0 b1 id hr I hf)
  have HR := hidP (fun W h => hB.later (w' := W) h)
  have HI : Hid (I < ls.length) := hidP (List.getElem?_eq_some_iff.1 hq).1
  have HK := hidP (ok_parts (sesF_mem (dk_next hr).2.2.2 q (List.mem_of_getElem? hq)).1)
  have HQ := hidP hq
  clear hf hr hq
  clear hB hn
  go_enter Try.func11, Try.ntmps11
  go_wp2_with fail
  obtain ⟨b0, b1⟩ := box2D w 26 (.slice a n c) (.int .i64 N)
  have bB := alloc_below w (.cells #[.slice a n c, .int .i64 N] 26)
  have bL := alloc_lt w (.cells #[.slice a n c, .int .i64 N] 26)
  have bS : (w.alloc (.cells #[.slice a n c, .int .i64 N] 26)).heap.size = w.heap.size + 1 := by simp
  generalize w.alloc (.cells #[.slice a n c, .int .i64 N] 26) = W1 at *
  have HU := hidP bB
  clear bB bS
  refine (HS.out _ HU.out bL b0 b1).mono ?_
  rintro e w2 ⟨p, o, rfl, rfl, hb2⟩
  obtain ⟨p', o', q', he, hp, hq', c0, c1, c2, c3⟩ := rowSs (HR.out _ (HU.out.trans (hb2.mono HU.out.size))) I HI.out
  simp only [Option.some.injEq, Addr.mk.injEq, and_true] at he
  obtain ⟨rfl, rfl⟩ := he
  rw [HQ.out] at hq'
  cases hq'
  have HB2 := hidP hb2
  have HAs := hidP (sesAsk_any p (o + I * 4) q s w2 HK.out.1 HK.out.2.1 c1 c2)
  clear hb2 c0 c1 c2 c3 hp b0 b1 bL
  go_wp2_with fail
  refine HAs.out.mono ?_
  rintro e w3 ⟨rfl, hb3⟩
  have HB3 := hidP hb3
  clear hb3
  go_wp2_with fail
  refine bodyPost_ret (v := .tuple #[.int .i64 (askN q.l s), .string (askT q s)]) (by simp [results, Try.results11, go_sem]) rfl ⟨rfl, HU.out.trans ((HB2.out.trans (HB3.out.mono HB2.out.size)).mono HU.out.size)⟩

set_option maxRecDepth 10000 in
set_option maxHeartbeats 2000000 in
theorem sAsk_form (a : Option Addr) (n c : Nat) (N : Int) (ls : List Ss) (w : World) (hn : n = ls.length) (hB : RowG KSs w a ls) (hl : n ≤ 1048576) (id s : Int) (hr : dkB ls N = false) :
    Calls Try.prog 30 #[.agg #[.slice a n c, .int .i64 N], .int .i64 id, .int .i64 s] w fun e w' => e = .returned (.tuple #[.int .i64 4, .string ⟨#[]⟩]) ∧ Below w.heap.size w w' := by
  have HF := hidP (fun W (h : Below w.heap.size w W) => l7Find_any a n c N ls W hn (hB.later h) hl id)
  have HD := hidP (fun W (h : Below w.heap.size w W) => sDeskOk_any a n c N ls W hn (hB.later h) hl)
  rw [hr] at HD
  clear hr hB hn
  generalize fxS id ls = fx at *
  go_enter Try.func30, Try.ntmps30
  go_wp2_with fail
  obtain ⟨bk0_W1, bk1_W1⟩ := box2D w 26 (.slice a n c) (.int .i64 N)
  have bkF_W1 : ∀ o, (w.alloc (.cells #[.slice a n c, .int .i64 N] 26)).frozen? ⟨w.heap.size, o, none⟩ = false := fun o => by simp [go_sem]
  have bkL_W1 : w.heap.size < (w.alloc (.cells #[.slice a n c, .int .i64 N] 26)).heap.size := by simp
  have ab_W1 := alloc_below w (.cells #[.slice a n c, .int .i64 N] 26)
  have as_W1 : Hid ((w.alloc (.cells #[.slice a n c, .int .i64 N] 26)).heap.size = w.heap.size + 1) := hidP (by simp)
  generalize w.alloc (.cells #[.slice a n c, .int .i64 N] 26) = W1 at *
  have acc_W1 := hidP (ab_W1)
  have sz_W1 : Hid (w.heap.size ≤ W1.heap.size) := hidP ab_W1.size
  clear ab_W1 
  refine (HF.out _ acc_W1.out).mono ?_
  rintro e w2 ⟨rfl, hb2⟩
  have bk0_w2 := (hb2.cell bkL_W1).trans bk0_W1
  have bk1_w2 := (hb2.cell bkL_W1).trans bk1_W1
  have bkF_w2 : ∀ o, w2.frozen? ⟨w.heap.size, o, none⟩ = false := fun o => (hb2.frozen bkL_W1).trans (bkF_W1 o)
  have bkL_w2 : w.heap.size < w2.heap.size := Nat.lt_of_lt_of_le bkL_W1 hb2.size
  have acc_w2 := hidP (acc_W1.out.trans (hb2.mono acc_W1.out.size))
  have sz_w2 : Hid (W1.heap.size ≤ w2.heap.size) := hidP hb2.size
  clear hb2 bk0_W1 bk1_W1 bkF_W1 bkL_W1 acc_W1
  go_wp2_with fail
  refine (HD.out _ acc_w2.out).mono ?_
  rintro e w3 ⟨rfl, hb3⟩
  have bk0_w3 := (hb3.cell bkL_w2).trans bk0_w2
  have bk1_w3 := (hb3.cell bkL_w2).trans bk1_w2
  have bkF_w3 : ∀ o, w3.frozen? ⟨w.heap.size, o, none⟩ = false := fun o => (hb3.frozen bkL_w2).trans (bkF_w2 o)
  have bkL_w3 : w.heap.size < w3.heap.size := Nat.lt_of_lt_of_le bkL_w2 hb3.size
  have acc_w3 := hidP (acc_w2.out.trans (hb3.mono acc_w2.out.size))
  have sz_w3 : Hid (w2.heap.size ≤ w3.heap.size) := hidP hb3.size
  clear hb3 bk0_w2 bk1_w2 bkF_w2 bkL_w2 acc_w2
  go_wp2_with fail
  refine bodyPost_ret (v := .tuple #[.int .i64 4, .string ⟨#[]⟩]) (by simp [results, Try.results30, go_sem]) rfl ⟨rfl, acc_w3.out⟩

set_option maxRecDepth 10000 in
set_option maxHeartbeats 2000000 in
theorem sAsk_none (a : Option Addr) (n c : Nat) (N : Int) (ls : List Ss) (w : World) (hn : n = ls.length) (hB : RowG KSs w a ls) (hl : n ≤ 1048576) (id s : Int) (hr : dkB ls N = true) (hf : findS id ls = none) :
    Calls Try.prog 30 #[.agg #[.slice a n c, .int .i64 N], .int .i64 id, .int .i64 s] w fun e w' => e = .returned (.tuple #[.int .i64 4, .string ⟨#[]⟩]) ∧ Below w.heap.size w w' := by
  have HF := hidP (fun W (h : Below w.heap.size w W) => l7Find_any a n c N ls W hn (hB.later h) hl id)
  have HD := hidP (fun W (h : Below w.heap.size w W) => sDeskOk_any a n c N ls W hn (hB.later h) hl)
  rw [hr] at HD
  rw [fxS_none hf] at HF
  clear hr hf hB hn
  go_enter Try.func30, Try.ntmps30
  go_wp2_with fail
  obtain ⟨bk0_W1, bk1_W1⟩ := box2D w 26 (.slice a n c) (.int .i64 N)
  have bkF_W1 : ∀ o, (w.alloc (.cells #[.slice a n c, .int .i64 N] 26)).frozen? ⟨w.heap.size, o, none⟩ = false := fun o => by simp [go_sem]
  have bkL_W1 : w.heap.size < (w.alloc (.cells #[.slice a n c, .int .i64 N] 26)).heap.size := by simp
  have ab_W1 := alloc_below w (.cells #[.slice a n c, .int .i64 N] 26)
  have as_W1 : Hid ((w.alloc (.cells #[.slice a n c, .int .i64 N] 26)).heap.size = w.heap.size + 1) := hidP (by simp)
  generalize w.alloc (.cells #[.slice a n c, .int .i64 N] 26) = W1 at *
  have acc_W1 := hidP (ab_W1)
  have sz_W1 : Hid (w.heap.size ≤ W1.heap.size) := hidP ab_W1.size
  clear ab_W1 
  refine (HF.out _ acc_W1.out).mono ?_
  rintro e w2 ⟨rfl, hb2⟩
  have bk0_w2 := (hb2.cell bkL_W1).trans bk0_W1
  have bk1_w2 := (hb2.cell bkL_W1).trans bk1_W1
  have bkF_w2 : ∀ o, w2.frozen? ⟨w.heap.size, o, none⟩ = false := fun o => (hb2.frozen bkL_W1).trans (bkF_W1 o)
  have bkL_w2 : w.heap.size < w2.heap.size := Nat.lt_of_lt_of_le bkL_W1 hb2.size
  have acc_w2 := hidP (acc_W1.out.trans (hb2.mono acc_W1.out.size))
  have sz_w2 : Hid (W1.heap.size ≤ w2.heap.size) := hidP hb2.size
  clear hb2 bk0_W1 bk1_W1 bkF_W1 bkL_W1 acc_W1
  go_wp2_with fail
  refine (HD.out _ acc_w2.out).mono ?_
  rintro e w3 ⟨rfl, hb3⟩
  have bk0_w3 := (hb3.cell bkL_w2).trans bk0_w2
  have bk1_w3 := (hb3.cell bkL_w2).trans bk1_w2
  have bkF_w3 : ∀ o, w3.frozen? ⟨w.heap.size, o, none⟩ = false := fun o => (hb3.frozen bkL_w2).trans (bkF_w2 o)
  have bkL_w3 : w.heap.size < w3.heap.size := Nat.lt_of_lt_of_le bkL_w2 hb3.size
  have acc_w3 := hidP (acc_w2.out.trans (hb3.mono acc_w2.out.size))
  have sz_w3 : Hid (w2.heap.size ≤ w3.heap.size) := hidP hb3.size
  clear hb3 bk0_w2 bk1_w2 bkF_w2 bkL_w2 acc_w2
  go_wp2_with fail
  refine bodyPost_ret (v := .tuple #[.int .i64 4, .string ⟨#[]⟩]) (by simp [results, Try.results30, go_sem]) rfl ⟨rfl, acc_w3.out⟩

set_option maxRecDepth 10000 in
set_option maxHeartbeats 2000000 in
theorem sAsk_yes (a : Option Addr) (n c : Nat) (N : Int) (ls : List Ss) (w : World) (hn : n = ls.length) (hB : RowG KSs w a ls) (hl : n ≤ 1048576) (id s : Int) (hr : dkB ls N = true) (I : Nat) (hf : findS id ls = some I) (q : Ss) (hq : ls[I]? = some q) :
    Calls Try.prog 30 #[.agg #[.slice a n c, .int .i64 N], .int .i64 id, .int .i64 s] w fun e w' => e = .returned (.tuple #[.int .i64 (askN q.l s), .string (askT q s)]) ∧ Below w.heap.size w w' := by
  have HF := hidP (fun W (h : Below w.heap.size w W) => l7Find_any a n c N ls W hn (hB.later h) hl id)
  have HD := hidP (fun W (h : Below w.heap.size w W) => sDeskOk_any a n c N ls W hn (hB.later h) hl)
  rw [hr] at HD
  rw [fxS_some hf] at HF
  have hI : I < n := by rw [hn]; exact (List.getElem?_eq_some_iff.1 hq).1
  have hIi : (I : Int) < (n : Int) := by omega
  have hI0 : (0 : Int) ≤ (I : Int) := by omega
  have hId : decide ((I : Int) < 0) = false := decide_eq_false (by omega)
  obtain ⟨h0, h1, _⟩ := ok_parts (sesF_mem (dk_next hr).2.2.2 q (List.mem_of_getElem? hq)).1
  have hw : IntKind.i64.wrap (q.l + 1) = q.l + 1 := by rw [IntKind.wrap_i64]; omega
  obtain ⟨pp, oo, q', rfl, hp, hq', c0, c1, c2, c3⟩ := rowSs hB I (by rw [← hn]; exact hI)
  rw [hq] at hq'
  cases hq'
  clear hr hf hq hB hn
  refine ask_cases q.l s _ ?_ ?_ ?_ ?_ ?_
  · intro g1 hv
    have HV : Hid (askN q.l s = 0 ∧ askT q s = ⟨#[]⟩) := hidP ⟨hv, by unfold askT; rw [hv]; rw [if_neg (by decide)]⟩
    clear hv
    go_enter Try.func30, Try.ntmps30
    go_wp2_with fail
    obtain ⟨bk0_W1, bk1_W1⟩ := box2D w 26 (.slice (some ⟨pp, oo, none⟩) n c) (.int .i64 N)
    have bkF_W1 : ∀ o, (w.alloc (.cells #[.slice (some ⟨pp, oo, none⟩) n c, .int .i64 N] 26)).frozen? ⟨w.heap.size, o, none⟩ = false := fun o => by simp [go_sem]
    have bkL_W1 : w.heap.size < (w.alloc (.cells #[.slice (some ⟨pp, oo, none⟩) n c, .int .i64 N] 26)).heap.size := by simp
    have ab_W1 := alloc_below w (.cells #[.slice (some ⟨pp, oo, none⟩) n c, .int .i64 N] 26)
    have as_W1 : Hid ((w.alloc (.cells #[.slice (some ⟨pp, oo, none⟩) n c, .int .i64 N] 26)).heap.size = w.heap.size + 1) := hidP (by simp)
    generalize w.alloc (.cells #[.slice (some ⟨pp, oo, none⟩) n c, .int .i64 N] 26) = W1 at *
    have acc_W1 := hidP (ab_W1)
    have sz_W1 : Hid (w.heap.size ≤ W1.heap.size) := hidP ab_W1.size
    clear ab_W1 
    refine (HF.out _ acc_W1.out).mono ?_
    rintro e w2 ⟨rfl, hb2⟩
    have bk0_w2 := (hb2.cell bkL_W1).trans bk0_W1
    have bk1_w2 := (hb2.cell bkL_W1).trans bk1_W1
    have bkF_w2 : ∀ o, w2.frozen? ⟨w.heap.size, o, none⟩ = false := fun o => (hb2.frozen bkL_W1).trans (bkF_W1 o)
    have bkL_w2 : w.heap.size < w2.heap.size := Nat.lt_of_lt_of_le bkL_W1 hb2.size
    have acc_w2 := hidP (acc_W1.out.trans (hb2.mono acc_W1.out.size))
    have sz_w2 : Hid (W1.heap.size ≤ w2.heap.size) := hidP hb2.size
    clear hb2 bk0_W1 bk1_W1 bkF_W1 bkL_W1 acc_W1
    go_wp2_with fail
    refine (HD.out _ acc_w2.out).mono ?_
    rintro e w3 ⟨rfl, hb3⟩
    have bk0_w3 := (hb3.cell bkL_w2).trans bk0_w2
    have bk1_w3 := (hb3.cell bkL_w2).trans bk1_w2
    have bkF_w3 : ∀ o, w3.frozen? ⟨w.heap.size, o, none⟩ = false := fun o => (hb3.frozen bkL_w2).trans (bkF_w2 o)
    have bkL_w3 : w.heap.size < w3.heap.size := Nat.lt_of_lt_of_le bkL_w2 hb3.size
    have acc_w3 := hidP (acc_w2.out.trans (hb3.mono acc_w2.out.size))
    have sz_w3 : Hid (w2.heap.size ≤ w3.heap.size) := hidP hb3.size
    clear hb3 bk0_w2 bk1_w2 bkF_w2 bkL_w2 acc_w2
    have e0 := (acc_w3.out.cell hp).trans c0
    have e1 := (acc_w3.out.cell hp).trans c1
    have e2 := (acc_w3.out.cell hp).trans c2
    have e3 := (acc_w3.out.cell hp).trans c3
    go_wp2_with fail
    refine bodyPost_ret (v := .tuple #[.int .i64 0, .string ⟨#[]⟩]) (by simp [results, Try.results30, go_sem]) rfl ⟨ret_is HV.out.1.symm HV.out.2.symm, ?_⟩
    exact acc_w3.out.alloc acc_w3.out.size _
  · intro g1 g2 g3 hv
    have HV : Hid (askN q.l s = 1 ∧ askT q s = q.t) := hidP ⟨hv, by unfold askT; rw [hv]; rw [if_pos rfl]⟩
    clear hv
    go_enter Try.func30, Try.ntmps30
    go_wp2_with fail
    obtain ⟨bk0_W1, bk1_W1⟩ := box2D w 26 (.slice (some ⟨pp, oo, none⟩) n c) (.int .i64 N)
    have bkF_W1 : ∀ o, (w.alloc (.cells #[.slice (some ⟨pp, oo, none⟩) n c, .int .i64 N] 26)).frozen? ⟨w.heap.size, o, none⟩ = false := fun o => by simp [go_sem]
    have bkL_W1 : w.heap.size < (w.alloc (.cells #[.slice (some ⟨pp, oo, none⟩) n c, .int .i64 N] 26)).heap.size := by simp
    have ab_W1 := alloc_below w (.cells #[.slice (some ⟨pp, oo, none⟩) n c, .int .i64 N] 26)
    have as_W1 : Hid ((w.alloc (.cells #[.slice (some ⟨pp, oo, none⟩) n c, .int .i64 N] 26)).heap.size = w.heap.size + 1) := hidP (by simp)
    generalize w.alloc (.cells #[.slice (some ⟨pp, oo, none⟩) n c, .int .i64 N] 26) = W1 at *
    have acc_W1 := hidP (ab_W1)
    have sz_W1 : Hid (w.heap.size ≤ W1.heap.size) := hidP ab_W1.size
    clear ab_W1 
    refine (HF.out _ acc_W1.out).mono ?_
    rintro e w2 ⟨rfl, hb2⟩
    have bk0_w2 := (hb2.cell bkL_W1).trans bk0_W1
    have bk1_w2 := (hb2.cell bkL_W1).trans bk1_W1
    have bkF_w2 : ∀ o, w2.frozen? ⟨w.heap.size, o, none⟩ = false := fun o => (hb2.frozen bkL_W1).trans (bkF_W1 o)
    have bkL_w2 : w.heap.size < w2.heap.size := Nat.lt_of_lt_of_le bkL_W1 hb2.size
    have acc_w2 := hidP (acc_W1.out.trans (hb2.mono acc_W1.out.size))
    have sz_w2 : Hid (W1.heap.size ≤ w2.heap.size) := hidP hb2.size
    clear hb2 bk0_W1 bk1_W1 bkF_W1 bkL_W1 acc_W1
    go_wp2_with fail
    refine (HD.out _ acc_w2.out).mono ?_
    rintro e w3 ⟨rfl, hb3⟩
    have bk0_w3 := (hb3.cell bkL_w2).trans bk0_w2
    have bk1_w3 := (hb3.cell bkL_w2).trans bk1_w2
    have bkF_w3 : ∀ o, w3.frozen? ⟨w.heap.size, o, none⟩ = false := fun o => (hb3.frozen bkL_w2).trans (bkF_w2 o)
    have bkL_w3 : w.heap.size < w3.heap.size := Nat.lt_of_lt_of_le bkL_w2 hb3.size
    have acc_w3 := hidP (acc_w2.out.trans (hb3.mono acc_w2.out.size))
    have sz_w3 : Hid (w2.heap.size ≤ w3.heap.size) := hidP hb3.size
    clear hb3 bk0_w2 bk1_w2 bkF_w2 bkL_w2 acc_w2
    have e0 := (acc_w3.out.cell hp).trans c0
    have e1 := (acc_w3.out.cell hp).trans c1
    have e2 := (acc_w3.out.cell hp).trans c2
    have e3 := (acc_w3.out.cell hp).trans c3
    go_wp2_with fail
    go_region
    all_goals go_wp2_with fail
    refine bodyPost_ret (v := .tuple #[.int .i64 1, .string q.t]) (by simp [results, Try.results30, go_sem]) rfl ⟨ret_is HV.out.1.symm HV.out.2.symm, ?_⟩
    refine Below.drew ?_; exact acc_w3.out.alloc acc_w3.out.size _
  · intro g1 g2 g3 g4 hv
    have HV : Hid (askN q.l s = 2 ∧ askT q s = ⟨#[]⟩) := hidP ⟨hv, by unfold askT; rw [hv]; rw [if_neg (by decide)]⟩
    clear hv
    go_enter Try.func30, Try.ntmps30
    go_wp2_with fail
    obtain ⟨bk0_W1, bk1_W1⟩ := box2D w 26 (.slice (some ⟨pp, oo, none⟩) n c) (.int .i64 N)
    have bkF_W1 : ∀ o, (w.alloc (.cells #[.slice (some ⟨pp, oo, none⟩) n c, .int .i64 N] 26)).frozen? ⟨w.heap.size, o, none⟩ = false := fun o => by simp [go_sem]
    have bkL_W1 : w.heap.size < (w.alloc (.cells #[.slice (some ⟨pp, oo, none⟩) n c, .int .i64 N] 26)).heap.size := by simp
    have ab_W1 := alloc_below w (.cells #[.slice (some ⟨pp, oo, none⟩) n c, .int .i64 N] 26)
    have as_W1 : Hid ((w.alloc (.cells #[.slice (some ⟨pp, oo, none⟩) n c, .int .i64 N] 26)).heap.size = w.heap.size + 1) := hidP (by simp)
    generalize w.alloc (.cells #[.slice (some ⟨pp, oo, none⟩) n c, .int .i64 N] 26) = W1 at *
    have acc_W1 := hidP (ab_W1)
    have sz_W1 : Hid (w.heap.size ≤ W1.heap.size) := hidP ab_W1.size
    clear ab_W1 
    refine (HF.out _ acc_W1.out).mono ?_
    rintro e w2 ⟨rfl, hb2⟩
    have bk0_w2 := (hb2.cell bkL_W1).trans bk0_W1
    have bk1_w2 := (hb2.cell bkL_W1).trans bk1_W1
    have bkF_w2 : ∀ o, w2.frozen? ⟨w.heap.size, o, none⟩ = false := fun o => (hb2.frozen bkL_W1).trans (bkF_W1 o)
    have bkL_w2 : w.heap.size < w2.heap.size := Nat.lt_of_lt_of_le bkL_W1 hb2.size
    have acc_w2 := hidP (acc_W1.out.trans (hb2.mono acc_W1.out.size))
    have sz_w2 : Hid (W1.heap.size ≤ w2.heap.size) := hidP hb2.size
    clear hb2 bk0_W1 bk1_W1 bkF_W1 bkL_W1 acc_W1
    go_wp2_with fail
    refine (HD.out _ acc_w2.out).mono ?_
    rintro e w3 ⟨rfl, hb3⟩
    have bk0_w3 := (hb3.cell bkL_w2).trans bk0_w2
    have bk1_w3 := (hb3.cell bkL_w2).trans bk1_w2
    have bkF_w3 : ∀ o, w3.frozen? ⟨w.heap.size, o, none⟩ = false := fun o => (hb3.frozen bkL_w2).trans (bkF_w2 o)
    have bkL_w3 : w.heap.size < w3.heap.size := Nat.lt_of_lt_of_le bkL_w2 hb3.size
    have acc_w3 := hidP (acc_w2.out.trans (hb3.mono acc_w2.out.size))
    have sz_w3 : Hid (w2.heap.size ≤ w3.heap.size) := hidP hb3.size
    clear hb3 bk0_w2 bk1_w2 bkF_w2 bkL_w2 acc_w2
    have e0 := (acc_w3.out.cell hp).trans c0
    have e1 := (acc_w3.out.cell hp).trans c1
    have e2 := (acc_w3.out.cell hp).trans c2
    have e3 := (acc_w3.out.cell hp).trans c3
    go_wp2_with fail
    refine bodyPost_ret (v := .tuple #[.int .i64 2, .string ⟨#[]⟩]) (by simp [results, Try.results30, go_sem]) rfl ⟨ret_is HV.out.1.symm HV.out.2.symm, ?_⟩
    exact acc_w3.out.alloc acc_w3.out.size _
  · intro g1 g2 g3 hv
    have HV : Hid (askN q.l s = 2 ∧ askT q s = ⟨#[]⟩) := hidP ⟨hv, by unfold askT; rw [hv]; rw [if_neg (by decide)]⟩
    clear hv
    go_enter Try.func30, Try.ntmps30
    go_wp2_with fail
    obtain ⟨bk0_W1, bk1_W1⟩ := box2D w 26 (.slice (some ⟨pp, oo, none⟩) n c) (.int .i64 N)
    have bkF_W1 : ∀ o, (w.alloc (.cells #[.slice (some ⟨pp, oo, none⟩) n c, .int .i64 N] 26)).frozen? ⟨w.heap.size, o, none⟩ = false := fun o => by simp [go_sem]
    have bkL_W1 : w.heap.size < (w.alloc (.cells #[.slice (some ⟨pp, oo, none⟩) n c, .int .i64 N] 26)).heap.size := by simp
    have ab_W1 := alloc_below w (.cells #[.slice (some ⟨pp, oo, none⟩) n c, .int .i64 N] 26)
    have as_W1 : Hid ((w.alloc (.cells #[.slice (some ⟨pp, oo, none⟩) n c, .int .i64 N] 26)).heap.size = w.heap.size + 1) := hidP (by simp)
    generalize w.alloc (.cells #[.slice (some ⟨pp, oo, none⟩) n c, .int .i64 N] 26) = W1 at *
    have acc_W1 := hidP (ab_W1)
    have sz_W1 : Hid (w.heap.size ≤ W1.heap.size) := hidP ab_W1.size
    clear ab_W1 
    refine (HF.out _ acc_W1.out).mono ?_
    rintro e w2 ⟨rfl, hb2⟩
    have bk0_w2 := (hb2.cell bkL_W1).trans bk0_W1
    have bk1_w2 := (hb2.cell bkL_W1).trans bk1_W1
    have bkF_w2 : ∀ o, w2.frozen? ⟨w.heap.size, o, none⟩ = false := fun o => (hb2.frozen bkL_W1).trans (bkF_W1 o)
    have bkL_w2 : w.heap.size < w2.heap.size := Nat.lt_of_lt_of_le bkL_W1 hb2.size
    have acc_w2 := hidP (acc_W1.out.trans (hb2.mono acc_W1.out.size))
    have sz_w2 : Hid (W1.heap.size ≤ w2.heap.size) := hidP hb2.size
    clear hb2 bk0_W1 bk1_W1 bkF_W1 bkL_W1 acc_W1
    go_wp2_with fail
    refine (HD.out _ acc_w2.out).mono ?_
    rintro e w3 ⟨rfl, hb3⟩
    have bk0_w3 := (hb3.cell bkL_w2).trans bk0_w2
    have bk1_w3 := (hb3.cell bkL_w2).trans bk1_w2
    have bkF_w3 : ∀ o, w3.frozen? ⟨w.heap.size, o, none⟩ = false := fun o => (hb3.frozen bkL_w2).trans (bkF_w2 o)
    have bkL_w3 : w.heap.size < w3.heap.size := Nat.lt_of_lt_of_le bkL_w2 hb3.size
    have acc_w3 := hidP (acc_w2.out.trans (hb3.mono acc_w2.out.size))
    have sz_w3 : Hid (w2.heap.size ≤ w3.heap.size) := hidP hb3.size
    clear hb3 bk0_w2 bk1_w2 bkF_w2 bkL_w2 acc_w2
    have e0 := (acc_w3.out.cell hp).trans c0
    have e1 := (acc_w3.out.cell hp).trans c1
    have e2 := (acc_w3.out.cell hp).trans c2
    have e3 := (acc_w3.out.cell hp).trans c3
    go_wp2_with fail
    refine bodyPost_ret (v := .tuple #[.int .i64 2, .string ⟨#[]⟩]) (by simp [results, Try.results30, go_sem]) rfl ⟨ret_is HV.out.1.symm HV.out.2.symm, ?_⟩
    exact acc_w3.out.alloc acc_w3.out.size _
  · intro g1 g2 g3 hv
    have HV : Hid (askN q.l s = 3 ∧ askT q s = ⟨#[]⟩) := hidP ⟨hv, by unfold askT; rw [hv]; rw [if_neg (by decide)]⟩
    clear hv
    go_enter Try.func30, Try.ntmps30
    go_wp2_with fail
    obtain ⟨bk0_W1, bk1_W1⟩ := box2D w 26 (.slice (some ⟨pp, oo, none⟩) n c) (.int .i64 N)
    have bkF_W1 : ∀ o, (w.alloc (.cells #[.slice (some ⟨pp, oo, none⟩) n c, .int .i64 N] 26)).frozen? ⟨w.heap.size, o, none⟩ = false := fun o => by simp [go_sem]
    have bkL_W1 : w.heap.size < (w.alloc (.cells #[.slice (some ⟨pp, oo, none⟩) n c, .int .i64 N] 26)).heap.size := by simp
    have ab_W1 := alloc_below w (.cells #[.slice (some ⟨pp, oo, none⟩) n c, .int .i64 N] 26)
    have as_W1 : Hid ((w.alloc (.cells #[.slice (some ⟨pp, oo, none⟩) n c, .int .i64 N] 26)).heap.size = w.heap.size + 1) := hidP (by simp)
    generalize w.alloc (.cells #[.slice (some ⟨pp, oo, none⟩) n c, .int .i64 N] 26) = W1 at *
    have acc_W1 := hidP (ab_W1)
    have sz_W1 : Hid (w.heap.size ≤ W1.heap.size) := hidP ab_W1.size
    clear ab_W1 
    refine (HF.out _ acc_W1.out).mono ?_
    rintro e w2 ⟨rfl, hb2⟩
    have bk0_w2 := (hb2.cell bkL_W1).trans bk0_W1
    have bk1_w2 := (hb2.cell bkL_W1).trans bk1_W1
    have bkF_w2 : ∀ o, w2.frozen? ⟨w.heap.size, o, none⟩ = false := fun o => (hb2.frozen bkL_W1).trans (bkF_W1 o)
    have bkL_w2 : w.heap.size < w2.heap.size := Nat.lt_of_lt_of_le bkL_W1 hb2.size
    have acc_w2 := hidP (acc_W1.out.trans (hb2.mono acc_W1.out.size))
    have sz_w2 : Hid (W1.heap.size ≤ w2.heap.size) := hidP hb2.size
    clear hb2 bk0_W1 bk1_W1 bkF_W1 bkL_W1 acc_W1
    go_wp2_with fail
    refine (HD.out _ acc_w2.out).mono ?_
    rintro e w3 ⟨rfl, hb3⟩
    have bk0_w3 := (hb3.cell bkL_w2).trans bk0_w2
    have bk1_w3 := (hb3.cell bkL_w2).trans bk1_w2
    have bkF_w3 : ∀ o, w3.frozen? ⟨w.heap.size, o, none⟩ = false := fun o => (hb3.frozen bkL_w2).trans (bkF_w2 o)
    have bkL_w3 : w.heap.size < w3.heap.size := Nat.lt_of_lt_of_le bkL_w2 hb3.size
    have acc_w3 := hidP (acc_w2.out.trans (hb3.mono acc_w2.out.size))
    have sz_w3 : Hid (w2.heap.size ≤ w3.heap.size) := hidP hb3.size
    clear hb3 bk0_w2 bk1_w2 bkF_w2 bkL_w2 acc_w2
    have e0 := (acc_w3.out.cell hp).trans c0
    have e1 := (acc_w3.out.cell hp).trans c1
    have e2 := (acc_w3.out.cell hp).trans c2
    have e3 := (acc_w3.out.cell hp).trans c3
    go_wp2_with fail
    refine bodyPost_ret (v := .tuple #[.int .i64 3, .string ⟨#[]⟩]) (by simp [results, Try.results30, go_sem]) rfl ⟨ret_is HV.out.1.symm HV.out.2.symm, ?_⟩
    exact acc_w3.out.alloc acc_w3.out.size _

/-- What the two Ask answer. -/
theorem ask_both (n : Nat) (N : Int) (ls : List Ss) (hn : n = ls.length) (hl : n ≤ 1048576) (id s : Int) : ∃ (C : Int) (T : ByteArray),
    (∀ (a : Option Addr) (c : Nat) (w : World), RowG KSs w a ls → Calls Try.prog 30 #[.agg #[.slice a n c, .int .i64 N], .int .i64 id, .int .i64 s] w fun e w' => e = .returned (.tuple #[.int .i64 C, .string T]) ∧ Below w.heap.size w w') ∧
    (∀ (a : Option Addr) (c : Nat) (w : World), RowG KSs w a ls → Calls Try.prog 11 #[.agg #[.slice a n c, .int .i64 N], .int .i64 id, .int .i64 s] w fun e w' => e = .returned (.tuple #[.int .i64 C, .string T]) ∧ Below w.heap.size w w') := by
  cases hr : dkB ls N
  · exact ⟨4, ⟨#[]⟩, fun a c w e1 => sAsk_form a n c N ls w hn e1 hl id s hr, fun a c w e1 => iAsk_form a n c N ls w hn e1 hl id s hr⟩
  · cases hf : findS id ls with
    | none => exact ⟨4, ⟨#[]⟩, fun a c w e1 => sAsk_none a n c N ls w hn e1 hl id s hr hf, fun a c w e1 => iAsk_none a n c N ls w hn e1 hl id s hr hf⟩
    | some I =>
      obtain ⟨q, hq, _⟩ := findS_at hf
      exact ⟨askN q.l s, askT q s, fun a c w e1 => sAsk_yes a n c N ls w hn e1 hl id s hr I hf q hq, fun a c w e1 => iAsk_yes a n c N ls w hn e1 hl id s hr I hf q hq⟩

end Go.Proofs.Ytjenbmiiikeenaa
