/-
  Who holds an address: the program's placeHeld and the specification's l6Held.
-/
import Derived.Test.YtddnofonodgneaaGreatDoorV6Bin
import Derived.Test.YtddnofonodgneaaGreatDoorV6Tok
import Derived.Test.YtddnofonodgneaaGreatDoorV6SBk
namespace Go.Proofs.YtddnofonodgneaaGreatDoor
open Go.RowKit

theorem key_inj {a b : Ad} (h : a.key = b.key) : a = b := by
  have h1 := adr_lt a.H a.L
  have h2 := adr_lt b.H b.L
  unfold Ad.key keyN at h
  have hs : a.s = b.s := by
    cases hx : a.s <;> cases hy : b.s <;> simp [hx, hy] at h ⊢ <;> omega
  rw [hs] at h
  have h3 := adrN_inj (Nat.add_left_cancel h)
  cases a; cases b
  simp only at hs h3
  rw [hs, h3.1, h3.2]
theorem key_eq (q ad : Ad) : (q.s == ad.s && (q.H.toInt == ad.H.toInt && q.L.toInt == ad.L.toInt)) = (q.key == ad.key) := by
  by_cases h : q = ad
  · subst h; simp
  · have h1 : (q.key == ad.key) = false := by
      rw [beq_eq_false_iff_ne]; exact fun e => h (key_inj e)
    rw [h1]
    apply Bool.eq_false_iff.2
    intro hc
    simp only [Bool.and_eq_true, beq_iff_eq] at hc
    apply h
    cases q; cases ad
    simp only at hc
    rw [hc.1, BitVec.toInt_inj.1 hc.2.1, BitVec.toInt_inj.1 hc.2.2]
/-- Where the lease of an address stands. -/
def fxL (ls : List Ls) (ad : Ad) : Option Nat := ls.findIdx? fun q => q.a.key == ad.key
theorem fx_some {ls : List Ls} {ad : Ad} {i : Nat} {q : Ls} (hq : ls[i]? = some q) (he : q.a.key = ad.key) (hlow : ∀ (j : Nat) (r : Ls), j < i → ls[j]? = some r → r.a.key ≠ ad.key) : fxL ls ad = some i := by
  unfold fxL
  rw [List.findIdx?_eq_some_iff_getElem]
  have hi := (List.getElem?_eq_some_iff.1 hq).1
  have hg := (List.getElem?_eq_some_iff.1 hq).2
  refine ⟨hi, by rw [hg]; simpa using he, fun j hj => ?_⟩
  have := hlow j ls[j] hj (List.getElem?_eq_getElem (by omega))
  simpa using this
theorem fx_none {ls : List Ls} {ad : Ad} (h : ∀ (j : Nat) (r : Ls), ls[j]? = some r → r.a.key ≠ ad.key) : fxL ls ad = none := by
  unfold fxL
  rw [List.findIdx?_eq_none_iff]
  intro q hq
  obtain ⟨j, hj, e⟩ := List.getElem_of_mem hq
  have := h j q (by rw [← e]; exact List.getElem?_eq_getElem hj)
  simpa using this
theorem fx_at {ls : List Ls} {ad : Ad} {i : Nat} (h : fxL ls ad = some i) : ∃ q, ls[i]? = some q ∧ q.a.key = ad.key ∧ i < ls.length := by
  unfold fxL at h
  rw [List.findIdx?_eq_some_iff_getElem] at h
  obtain ⟨hi, he, _⟩ := h
  exact ⟨ls[i], List.getElem?_eq_getElem hi, by simpa using he, hi⟩
/-- What a binary search finds. -/
theorem fx_bin {ls : List Ls} {ad : Ad} (hs : SrtL ls) {i : Nat} (hlow : ∀ (j : Nat) (q : Ls), j < i → ls[j]? = some q → q.a.key < ad.key) (hhig : ∀ (j : Nat) (q : Ls), i ≤ j → ls[j]? = some q → ad.key ≤ q.a.key) : (fndL ls ad i = true ∧ fxL ls ad = some i) ∨ (fndL ls ad i = false ∧ fxL ls ad = none) := by
  unfold fndL
  cases hq : ls[i]? with
  | none =>
    right
    refine ⟨rfl, fx_none fun j r hr => ?_⟩
    have h1 : j < i := by
      rcases Nat.lt_or_ge j i with h | h
      · exact h
      · have := (List.getElem?_eq_some_iff.1 hr).1
        rw [List.getElem?_eq_none_iff] at hq; omega
    have := hlow j r h1 hr; omega
  | some q =>
    by_cases he : q.a.key = ad.key
    · left
      exact ⟨by simpa using he, fx_some hq he (fun j r hj hr => by have := hlow j r hj hr; omega)⟩
    · right
      refine ⟨by simpa using he, fx_none fun j r hr => ?_⟩
      have h0 := hhig i q (Nat.le_refl _) hq
      rcases Nat.lt_trichotomy j i with h | h | h
      · have := hlow j r h hr; omega
      · subst h; rw [hq] at hr; cases hr; exact he
      · have := hs.1 i j q r h hq hr; omega
/-- The code of who comes with a token. -/
def hcdL (ls : List Ls) (ad : Ad) (tk : Int) : Int := match fxL ls ad with
  | none => 13
  | some i => match ls[i]? with
    | none => 13
    | some q => if q.k = tk then 0 else 14

set_option maxRecDepth 10000 in
set_option maxHeartbeats 2000000 in
theorem placeHeld_form (a : Option Addr) (n c : Nat) (T N : Int) (ls : List Ls) (ad : Ad) (tk : Int) (w : World) (hn : n = ls.length) (hB : RowG KLs w a ls) (hl : n ≤ 1048576) (hst : ∀ q ∈ ls, q.t.size ≤ 9223372036854775807) (hr : (bkB ls T N && ad.ok) = false) :
    Calls Tryz.prog 35 #[.agg #[.slice a n c, .int .i64 T, .int .i64 N], .agg #[.bool ad.s, .int .i64 ad.H.toInt, .int .i64 ad.L.toInt], .int .i64 tk] w fun e w' => e = .returned (.tuple #[.int .i64 0, .iface 89 (.agg #[.int .i64 10])]) ∧ Below w.heap.size w w' := by
  have HIm := hidP (fun W h => iBookOk_any a n c T N ls W hn (hB.later h) hl hst)
  have HAd := hidP (iAddrOk_any ad.s ad.H.toInt ad.L.toInt)
  have hok : ad.ok = okB ad.s ad.H.toInt ad.L.toInt := rfl
  rw [hok] at hr
  clear hB hn hst hok
  cases hb : bkB ls T N
  · rw [hb] at HIm
    go_enter Tryz.func35, Tryz.ntmps35
    go_wp2_with fail
    refine (HIm.out _ ((alloc_below w _).alloc (by simp) _)).mono ?_
    rintro e w2 ⟨rfl, hb2⟩
    have HB2 := hidP hb2
    clear hb2
    go_wp2_with fail
    refine bodyPost_ret (v := .tuple #[.int .i64 0, .iface 89 (.agg #[.int .i64 10])]) (by simp [results, Tryz.results35, go_sem]) rfl ?_
    exact ⟨rfl, ((alloc_below w _).alloc (by simp) _).trans (HB2.out.mono (by simp; omega))⟩
  · rw [hb] at HIm hr
    rw [Bool.true_and] at hr
    rw [hr] at HAd
    go_enter Tryz.func35, Tryz.ntmps35
    go_wp2_with fail
    refine (HIm.out _ ((alloc_below w _).alloc (by simp) _)).mono ?_
    rintro e w2 ⟨rfl, hb2⟩
    have ac0 : w2.cell? ⟨w.heap.size + 1, 0, none⟩ = some (.bool ad.s) := (hb2.cell (by simp)).trans (by simp [go_sem])
    have ac1 : w2.cell? ⟨w.heap.size + 1, 1, none⟩ = some (.int .i64 ad.H.toInt) := (hb2.cell (by simp)).trans (by simp [go_sem])
    have ac2 : w2.cell? ⟨w.heap.size + 1, 2, none⟩ = some (.int .i64 ad.L.toInt) := (hb2.cell (by simp)).trans (by simp [go_sem])
    have HB2 := hidP hb2
    clear hb2
    go_wp2_with fail
    refine (HAd.out _).mono ?_
    rintro e w3 ⟨rfl, hb3⟩
    have HB3 := hidP hb3
    clear hb3
    go_wp2_with fail
    refine bodyPost_ret (v := .tuple #[.int .i64 0, .iface 89 (.agg #[.int .i64 10])]) (by simp [results, Tryz.results35, go_sem]) rfl ?_
    exact ⟨rfl, (((alloc_below w _).alloc (by simp) _).trans (HB2.out.mono (by simp; omega))).trans (HB3.out.mono (((alloc_below w _).alloc (by simp) _).trans (HB2.out.mono (by simp; omega))).size)⟩

set_option maxRecDepth 10000 in
set_option maxHeartbeats 2000000 in
theorem placeHeld_none (a : Option Addr) (n c : Nat) (T N : Int) (ls : List Ls) (ad : Ad) (tk : Int) (w : World) (hn : n = ls.length) (hB : RowG KLs w a ls) (hl : n ≤ 1048576) (hst : ∀ q ∈ ls, q.t.size ≤ 9223372036854775807) (hr : (bkB ls T N && ad.ok) = true) (hx : fxL ls ad = none) :
    Calls Tryz.prog 35 #[.agg #[.slice a n c, .int .i64 T, .int .i64 N], .agg #[.bool ad.s, .int .i64 ad.H.toInt, .int .i64 ad.L.toInt], .int .i64 tk] w fun e w' => e = .returned (.tuple #[.int .i64 0, .iface 89 (.agg #[.int .i64 13])]) ∧ Below w.heap.size w w' := by
  have HIm := hidP (fun W h => iBookOk_any a n c T N ls W hn (hB.later h) hl hst)
  have HAd := hidP (iAddrOk_any ad.s ad.H.toInt ad.L.toInt)
  rw [Bool.and_eq_true] at hr
  obtain ⟨hb, hok⟩ := hr
  have hs := (srt_bk hb).1
  have HPl := hidP (fun W h => placeOfLease_any a n c T N ls ad W hn (hB.later h) hl hs hok)
  have hok' : okB ad.s ad.H.toInt ad.L.toInt = true := hok
  rw [hb] at HIm
  rw [hok'] at HAd
  have HS := hidP hs
  have HN := hidP hn
  have HR := hidP (fun W h => hB.later (w' := W) h)
  clear hB hn hst hok hok' hb hs
  go_enter Tryz.func35, Tryz.ntmps35
  go_wp2_with fail
  refine (HIm.out _ ((alloc_below w _).alloc (by simp) _)).mono ?_
  rintro e w2 ⟨rfl, hb2⟩
  have ac0 : w2.cell? ⟨w.heap.size + 1, 0, none⟩ = some (.bool ad.s) := (hb2.cell (by simp)).trans (by simp [go_sem])
  have ac1 : w2.cell? ⟨w.heap.size + 1, 1, none⟩ = some (.int .i64 ad.H.toInt) := (hb2.cell (by simp)).trans (by simp [go_sem])
  have ac2 : w2.cell? ⟨w.heap.size + 1, 2, none⟩ = some (.int .i64 ad.L.toInt) := (hb2.cell (by simp)).trans (by simp [go_sem])
  have bc0 : w2.cell? ⟨w.heap.size, 0, none⟩ = some (.slice a n c) := (hb2.cell (by simp; omega)).trans (by simp [go_sem])
  have bc1 : w2.cell? ⟨w.heap.size, 1, none⟩ = some (.int .i64 T) := (hb2.cell (by simp; omega)).trans (by simp [go_sem])
  have bc2 : w2.cell? ⟨w.heap.size, 2, none⟩ = some (.int .i64 N) := (hb2.cell (by simp; omega)).trans (by simp [go_sem])
  have aL : w.heap.size + 1 < w2.heap.size := by have := hb2.size; simp at this; omega
  have bL : w.heap.size < w2.heap.size := by omega
  have A2 := hidP (((alloc_below w _).alloc (by simp) _).trans (hb2.mono (by simp; omega)))
  clear hb2
  go_wp2_with fail
  refine (HAd.out _).mono ?_
  rintro e w3 ⟨rfl, hb3⟩
  have ad0 := (hb3.cell aL).trans ac0
  have ad1 := (hb3.cell aL).trans ac1
  have ad2 := (hb3.cell aL).trans ac2
  have bd0 := (hb3.cell bL).trans bc0
  have bd1 := (hb3.cell bL).trans bc1
  have bd2 := (hb3.cell bL).trans bc2
  have bL3 : w.heap.size < w3.heap.size := Nat.lt_of_lt_of_le bL hb3.size
  have A3 := hidP (A2.out.trans (hb3.mono A2.out.size))
  clear hb3 ac0 ac1 ac2 bc0 bc1 bc2 aL bL
  go_wp2_with fail
  refine (HPl.out _ A3.out).mono ?_
  rintro e w4 ⟨⟨i, hi, hlow, hhig, rfl⟩, hb4⟩
  have HX := hidP (fx_bin HS.out hlow hhig)
  have be0 := (hb4.cell bL3).trans bd0
  have A4 := hidP (A3.out.trans (hb4.mono A3.out.size))
  clear hb4 ad0 ad1 ad2 bd0 bd1 bd2 hlow hhig
  have hf : fndL ls ad i = false := by
    rcases HX.out with ⟨_, h⟩ | ⟨h, _⟩
    · rw [hx] at h; cases h
    · exact h
  rw [hf]
  clear hf
  go_wp2_with fail
  refine bodyPost_ret (v := .tuple #[.int .i64 0, .iface 89 (.agg #[.int .i64 13])]) (by simp [results, Tryz.results35, go_sem]) rfl ?_
  exact ⟨rfl, A4.out⟩

set_option maxRecDepth 10000 in
set_option maxHeartbeats 2000000 in
theorem placeHeld_fence (a : Option Addr) (n c : Nat) (T N : Int) (ls : List Ls) (ad : Ad) (tk : Int) (w : World) (hn : n = ls.length) (hB : RowG KLs w a ls) (hl : n ≤ 1048576) (hst : ∀ q ∈ ls, q.t.size ≤ 9223372036854775807) (hr : (bkB ls T N && ad.ok) = true) (I : Nat) (q : Ls) (hx : fxL ls ad = some I) (hq : ls[I]? = some q) (hk : ¬ q.k = tk) :
    Calls Tryz.prog 35 #[.agg #[.slice a n c, .int .i64 T, .int .i64 N], .agg #[.bool ad.s, .int .i64 ad.H.toInt, .int .i64 ad.L.toInt], .int .i64 tk] w fun e w' => e = .returned (.tuple #[.int .i64 0, .iface 89 (.agg #[.int .i64 14])]) ∧ Below w.heap.size w w' := by
  have HIm := hidP (fun W h => iBookOk_any a n c T N ls W hn (hB.later h) hl hst)
  have HAd := hidP (iAddrOk_any ad.s ad.H.toInt ad.L.toInt)
  rw [Bool.and_eq_true] at hr
  obtain ⟨hb, hok⟩ := hr
  have hs := (srt_bk hb).1
  have HPl := hidP (fun W h => placeOfLease_any a n c T N ls ad W hn (hB.later h) hl hs hok)
  have hok' : okB ad.s ad.H.toInt ad.L.toInt = true := hok
  rw [hb] at HIm
  rw [hok'] at HAd
  have HS := hidP hs
  have HN := hidP hn
  have HR := hidP (fun W h => hB.later (w' := W) h)
  clear hB hn hst hok hok' hb hs
  go_enter Tryz.func35, Tryz.ntmps35
  go_wp2_with fail
  refine (HIm.out _ ((alloc_below w _).alloc (by simp) _)).mono ?_
  rintro e w2 ⟨rfl, hb2⟩
  have ac0 : w2.cell? ⟨w.heap.size + 1, 0, none⟩ = some (.bool ad.s) := (hb2.cell (by simp)).trans (by simp [go_sem])
  have ac1 : w2.cell? ⟨w.heap.size + 1, 1, none⟩ = some (.int .i64 ad.H.toInt) := (hb2.cell (by simp)).trans (by simp [go_sem])
  have ac2 : w2.cell? ⟨w.heap.size + 1, 2, none⟩ = some (.int .i64 ad.L.toInt) := (hb2.cell (by simp)).trans (by simp [go_sem])
  have bc0 : w2.cell? ⟨w.heap.size, 0, none⟩ = some (.slice a n c) := (hb2.cell (by simp; omega)).trans (by simp [go_sem])
  have bc1 : w2.cell? ⟨w.heap.size, 1, none⟩ = some (.int .i64 T) := (hb2.cell (by simp; omega)).trans (by simp [go_sem])
  have bc2 : w2.cell? ⟨w.heap.size, 2, none⟩ = some (.int .i64 N) := (hb2.cell (by simp; omega)).trans (by simp [go_sem])
  have aL : w.heap.size + 1 < w2.heap.size := by have := hb2.size; simp at this; omega
  have bL : w.heap.size < w2.heap.size := by omega
  have A2 := hidP (((alloc_below w _).alloc (by simp) _).trans (hb2.mono (by simp; omega)))
  clear hb2
  go_wp2_with fail
  refine (HAd.out _).mono ?_
  rintro e w3 ⟨rfl, hb3⟩
  have ad0 := (hb3.cell aL).trans ac0
  have ad1 := (hb3.cell aL).trans ac1
  have ad2 := (hb3.cell aL).trans ac2
  have bd0 := (hb3.cell bL).trans bc0
  have bd1 := (hb3.cell bL).trans bc1
  have bd2 := (hb3.cell bL).trans bc2
  have bL3 : w.heap.size < w3.heap.size := Nat.lt_of_lt_of_le bL hb3.size
  have A3 := hidP (A2.out.trans (hb3.mono A2.out.size))
  clear hb3 ac0 ac1 ac2 bc0 bc1 bc2 aL bL
  go_wp2_with fail
  refine (HPl.out _ A3.out).mono ?_
  rintro e w4 ⟨⟨i, hi, hlow, hhig, rfl⟩, hb4⟩
  have HX := hidP (fx_bin HS.out hlow hhig)
  have be0 := (hb4.cell bL3).trans bd0
  have A4 := hidP (A3.out.trans (hb4.mono A3.out.size))
  clear hb4 ad0 ad1 ad2 bd0 bd1 bd2 hlow hhig
  have hf : fndL ls ad i = true ∧ i = I := by
    rcases HX.out with ⟨h1, h⟩ | ⟨_, h⟩
    · rw [hx] at h; cases h; exact ⟨h1, rfl⟩
    · rw [hx] at h; cases h
  obtain ⟨hf, rfl⟩ := hf
  rw [hf]
  clear hf
  have hiI := (List.getElem?_eq_some_iff.1 hq).1
  obtain ⟨p, o, q', rfl, hp, hq', c0, c1, c2, c3, c4, c5⟩ := rowLs (HR.out _ A4.out) i hiI
  rw [hq] at hq'
  cases hq'
  have i0 : (0 : Int) ≤ (i : Int) := by omega
  have i1 : (i : Int) < (n : Int) := by have := HN.out; omega
  have hk1 : (q.k == tk) = false := beq_eq_false_iff_ne.2 hk
  go_wp2_with fail
  refine bodyPost_ret (v := .tuple #[.int .i64 0, .iface 89 (.agg #[.int .i64 14])]) (by simp [results, Tryz.results35, go_sem]) rfl ?_
  exact ⟨rfl, A4.out⟩

set_option maxRecDepth 10000 in
set_option maxHeartbeats 2000000 in
theorem placeHeld_yes (a : Option Addr) (n c : Nat) (T N : Int) (ls : List Ls) (ad : Ad) (tk : Int) (w : World) (hn : n = ls.length) (hB : RowG KLs w a ls) (hl : n ≤ 1048576) (hst : ∀ q ∈ ls, q.t.size ≤ 9223372036854775807) (hr : (bkB ls T N && ad.ok) = true) (I : Nat) (q : Ls) (hx : fxL ls ad = some I) (hq : ls[I]? = some q) (hk : q.k = tk) :
    Calls Tryz.prog 35 #[.agg #[.slice a n c, .int .i64 T, .int .i64 N], .agg #[.bool ad.s, .int .i64 ad.H.toInt, .int .i64 ad.L.toInt], .int .i64 tk] w fun e w' => e = .returned (.tuple #[.int .i64 I, .nilIface]) ∧ Below w.heap.size w w' := by
  have HIm := hidP (fun W h => iBookOk_any a n c T N ls W hn (hB.later h) hl hst)
  have HAd := hidP (iAddrOk_any ad.s ad.H.toInt ad.L.toInt)
  rw [Bool.and_eq_true] at hr
  obtain ⟨hb, hok⟩ := hr
  have hs := (srt_bk hb).1
  have HPl := hidP (fun W h => placeOfLease_any a n c T N ls ad W hn (hB.later h) hl hs hok)
  have hok' : okB ad.s ad.H.toInt ad.L.toInt = true := hok
  rw [hb] at HIm
  rw [hok'] at HAd
  have HS := hidP hs
  have HN := hidP hn
  have HR := hidP (fun W h => hB.later (w' := W) h)
  clear hB hn hst hok hok' hb hs
  go_enter Tryz.func35, Tryz.ntmps35
  go_wp2_with fail
  refine (HIm.out _ ((alloc_below w _).alloc (by simp) _)).mono ?_
  rintro e w2 ⟨rfl, hb2⟩
  have ac0 : w2.cell? ⟨w.heap.size + 1, 0, none⟩ = some (.bool ad.s) := (hb2.cell (by simp)).trans (by simp [go_sem])
  have ac1 : w2.cell? ⟨w.heap.size + 1, 1, none⟩ = some (.int .i64 ad.H.toInt) := (hb2.cell (by simp)).trans (by simp [go_sem])
  have ac2 : w2.cell? ⟨w.heap.size + 1, 2, none⟩ = some (.int .i64 ad.L.toInt) := (hb2.cell (by simp)).trans (by simp [go_sem])
  have bc0 : w2.cell? ⟨w.heap.size, 0, none⟩ = some (.slice a n c) := (hb2.cell (by simp; omega)).trans (by simp [go_sem])
  have bc1 : w2.cell? ⟨w.heap.size, 1, none⟩ = some (.int .i64 T) := (hb2.cell (by simp; omega)).trans (by simp [go_sem])
  have bc2 : w2.cell? ⟨w.heap.size, 2, none⟩ = some (.int .i64 N) := (hb2.cell (by simp; omega)).trans (by simp [go_sem])
  have aL : w.heap.size + 1 < w2.heap.size := by have := hb2.size; simp at this; omega
  have bL : w.heap.size < w2.heap.size := by omega
  have A2 := hidP (((alloc_below w _).alloc (by simp) _).trans (hb2.mono (by simp; omega)))
  clear hb2
  go_wp2_with fail
  refine (HAd.out _).mono ?_
  rintro e w3 ⟨rfl, hb3⟩
  have ad0 := (hb3.cell aL).trans ac0
  have ad1 := (hb3.cell aL).trans ac1
  have ad2 := (hb3.cell aL).trans ac2
  have bd0 := (hb3.cell bL).trans bc0
  have bd1 := (hb3.cell bL).trans bc1
  have bd2 := (hb3.cell bL).trans bc2
  have bL3 : w.heap.size < w3.heap.size := Nat.lt_of_lt_of_le bL hb3.size
  have A3 := hidP (A2.out.trans (hb3.mono A2.out.size))
  clear hb3 ac0 ac1 ac2 bc0 bc1 bc2 aL bL
  go_wp2_with fail
  refine (HPl.out _ A3.out).mono ?_
  rintro e w4 ⟨⟨i, hi, hlow, hhig, rfl⟩, hb4⟩
  have HX := hidP (fx_bin HS.out hlow hhig)
  have be0 := (hb4.cell bL3).trans bd0
  have A4 := hidP (A3.out.trans (hb4.mono A3.out.size))
  clear hb4 ad0 ad1 ad2 bd0 bd1 bd2 hlow hhig
  have hf : fndL ls ad i = true ∧ i = I := by
    rcases HX.out with ⟨h1, h⟩ | ⟨_, h⟩
    · rw [hx] at h; cases h; exact ⟨h1, rfl⟩
    · rw [hx] at h; cases h
  obtain ⟨hf, rfl⟩ := hf
  rw [hf]
  clear hf
  have hiI := (List.getElem?_eq_some_iff.1 hq).1
  obtain ⟨p, o, q', rfl, hp, hq', c0, c1, c2, c3, c4, c5⟩ := rowLs (HR.out _ A4.out) i hiI
  rw [hq] at hq'
  cases hq'
  have i0 : (0 : Int) ≤ (i : Int) := by omega
  have i1 : (i : Int) < (n : Int) := by have := HN.out; omega
  have hk1 : (q.k == tk) = true := beq_iff_eq.2 hk
  go_wp2_with fail
  refine bodyPost_ret (v := .tuple #[.int .i64 i, .nilIface]) (by simp [results, Tryz.results35, go_sem]) rfl ?_
  exact ⟨rfl, A4.out⟩

def fxI (ls : List Ls) (ad : Ad) : Int := match fxL ls ad with | none => -1 | some i => i
set_option maxRecDepth 10000 in
set_option maxHeartbeats 2000000 in
theorem l6Find_any (a : Option Addr) (n c : Nat) (T N : Int) (ls : List Ls) (ad : Ad) (w : World) (hn : n = ls.length) (hB : RowG KLs w a ls) (hl : n ≤ 1048576) :
    Calls Tryz.prog 32 #[.agg #[.slice a n c, .int .i64 T, .int .i64 N], .agg #[.bool ad.s, .int .i64 ad.H.toInt, .int .i64 ad.L.toInt]] w fun e w' => e = .returned (.int .i64 (fxI ls ad)) ∧ Below w.heap.size w w' := by
  have HB := hidP (fun W h => hB.later (w' := W) h)
  have HN := hidP hn
  clear hB hn
  go_enter Tryz.func32, Tryz.ntmps32
  go_wp2_with fail
  obtain ⟨b0, b1, b2⟩ := box3B w 26 (.slice a n c) (.int .i64 T) (.int .i64 N)
  have bB := alloc_below w (.cells #[.slice a n c, .int .i64 T, .int .i64 N] 26)
  have bL := alloc_lt w (.cells #[.slice a n c, .int .i64 T, .int .i64 N] 26)
  have bS : (w.alloc (.cells #[.slice a n c, .int .i64 T, .int .i64 N] 26)).heap.size = w.heap.size + 1 := by simp
  generalize w.alloc (.cells #[.slice a n c, .int .i64 T, .int .i64 N] 26) = W1 at *
  obtain ⟨y0, y1, y2⟩ := box3B W1 28 (.bool ad.s) (.int .i64 ad.H.toInt) (.int .i64 ad.L.toInt)
  have yB := alloc_below W1 (.cells #[.bool ad.s, .int .i64 ad.H.toInt, .int .i64 ad.L.toInt] 28)
  have yL := alloc_lt W1 (.cells #[.bool ad.s, .int .i64 ad.H.toInt, .int .i64 ad.L.toInt] 28)
  have yS : (W1.alloc (.cells #[.bool ad.s, .int .i64 ad.H.toInt, .int .i64 ad.L.toInt] 28)).heap.size = W1.heap.size + 1 := by simp
  generalize W1.alloc (.cells #[.bool ad.s, .int .i64 ad.H.toInt, .int .i64 ad.L.toInt] 28) = W2 at *
  rw [bS] at y0 y1 y2 yL yS
  have hL0 : w.heap.size < W2.heap.size := by omega
  have b0' := (yB.cell bL).trans b0
  have HU := hidP (bB.trans (yB.mono bB.size))
  have HR := hidP (HB.out _ HU.out)
  clear bB yB bS yS b0 b1 b2 HB bL
  go_loopw [5] (fun t5 wr => ∃ k : Nat, k ≤ n ∧ t5 = .int .i64 k ∧ (∀ (j : Nat) (r : Ls), j < k → ls[j]? = some r → r.a.key ≠ ad.key) ∧ Below W2.heap.size W2 wr) (fun t5 _ => n - (intOf t5).toNat)
  case atStart => exact ⟨0, Nat.zero_le _, rfl, (fun j r h => by omega), Below.refl _ _⟩
  case round =>
    obtain ⟨k, hk, rfl, hlow, hbel⟩ := hrel
    have HBel := hidP hbel
    have HLow := hidP hlow
    have B0 := (hbel.cell hL0).trans b0'
    have BL : w.heap.size < wr.heap.size := Nat.lt_of_lt_of_le hL0 hbel.size
    have Y0 := (hbel.cell yL).trans y0
    have Y1 := (hbel.cell yL).trans y1
    have Y2 := (hbel.cell yL).trans y2
    have YL : w.heap.size + 1 < wr.heap.size := Nat.lt_of_lt_of_le yL hbel.size
    clear hlow
    by_cases hlt : k < n
    · obtain ⟨p, o, q, rfl, hp, hq, c0, c1, c2, c3, c4, c5⟩ := rowLs HR.out k (by have := HN.out; omega)
      have d0 := (hbel.cell hp).trans c0
      have d1 := (hbel.cell hp).trans c1
      have d2 := (hbel.cell hp).trans c2
      have hpw : p < wr.heap.size := Nat.lt_of_lt_of_le hp hbel.size
      have k0 : (0 : Int) ≤ (k : Int) := by omega
      have k1 : (k : Int) < (n : Int) := by omega
      have HQ := hidP hq
      have hE := fun wx => eqSt q.a.s q.a.H.toInt q.a.L.toInt ad.s ad.H.toInt ad.L.toInt wx
      simp only [key_eq q.a ad] at hE
      clear c0 c1 c2 c3 c4 c5 hq hbel
      cases hk2 : (q.a.key == ad.key)
      · rw [hk2] at hE
        go_wp2_with fail
        have HSx : Hid (∀ x, Below wr.heap.size wr x → (x.cell? ⟨w.heap.size, 0, none⟩ = some (.slice (some ⟨p, o, none⟩) n c) ∧ x.cell? ⟨p, o + k * 6, none⟩ = some (.bool q.a.s) ∧ x.cell? ⟨p, o + k * 6 + 1, none⟩ = some (.int .i64 q.a.H.toInt) ∧ x.cell? ⟨p, o + k * 6 + 2, none⟩ = some (.int .i64 q.a.L.toInt) ∧ x.cell? ⟨w.heap.size + 1, 0, none⟩ = some (.bool ad.s) ∧ x.cell? ⟨w.heap.size + 1, 1, none⟩ = some (.int .i64 ad.H.toInt) ∧ x.cell? ⟨w.heap.size + 1, 2, none⟩ = some (.int .i64 ad.L.toInt) ∧ Below wr.heap.size wr x)) := hidP fun x h =>
          ⟨(h.cell BL).trans B0, (h.cell hpw).trans d0, (h.cell hpw).trans d1, (h.cell hpw).trans d2, (h.cell YL).trans Y0, (h.cell YL).trans Y1, (h.cell YL).trans Y2, h⟩
        refine wp_region_held_drew (S := (fun x => x.cell? ⟨w.heap.size, 0, none⟩ = some (.slice (some ⟨p, o, none⟩) n c) ∧ x.cell? ⟨p, o + k * 6, none⟩ = some (.bool q.a.s) ∧ x.cell? ⟨p, o + k * 6 + 1, none⟩ = some (.int .i64 q.a.H.toInt) ∧ x.cell? ⟨p, o + k * 6 + 2, none⟩ = some (.int .i64 q.a.L.toInt) ∧ x.cell? ⟨w.heap.size + 1, 0, none⟩ = some (.bool ad.s) ∧ x.cell? ⟨w.heap.size + 1, 1, none⟩ = some (.int .i64 ad.H.toInt) ∧ x.cell? ⟨w.heap.size + 1, 2, none⟩ = some (.int .i64 ad.L.toInt) ∧ Below wr.heap.size wr x)) (by kernel_rfl) ?_ (fun hHeld => ?_)
        · try dsimp only
          exact HSx.out _ ((Below.refl _ _).drew)
        refine wpAnyH_take (i := 0) (oi := ⟨some 13, _, _, _, _, _⟩) (v := ?_) rfl (by kernel_rfl) (by kernel_rfl) (by kernel_rfl) (fun _ _ _ h => h) (Or.inl ⟨by rfl, ?_⟩) (by assumption) ?_
        rotate_left
        · intro w hSw
          try dsimp only at hSw
          go_simp
          try with_reducible rfl
        simp only [Act.put, List.setIfInBounds_toArray, List.set_cons_zero, List.set_cons_succ]
        refine wpAnyH_take (i := 1) (oi := ⟨some 14, _, _, _, _, _⟩) (v := ?_) rfl (by kernel_rfl) (by kernel_rfl) (by kernel_rfl) (fun _ _ _ h => h) (Or.inl ⟨by rfl, ?_⟩) (by assumption) ?_
        rotate_left
        · intro w hSw
          try dsimp only at hSw
          go_simp
          try with_reducible rfl
        simp only [Act.put, List.setIfInBounds_toArray, List.set_cons_zero, List.set_cons_succ]
        refine wpAnyH_take (i := 2) (oi := ⟨some 15, _, _, _, _, _⟩) (v := ?_) rfl (by kernel_rfl) (by kernel_rfl) (by kernel_rfl) (fun _ _ _ h => h) (Or.inl ⟨by rfl, ?_⟩) (by assumption) ?_
        rotate_left
        · intro w hSw
          try dsimp only at hSw
          go_simp
          try with_reducible rfl
        simp only [Act.put, List.setIfInBounds_toArray, List.set_cons_zero, List.set_cons_succ]
        refine wpAnyH_take (i := 3) (oi := ⟨some 16, _, _, _, _, _⟩) (v := ?_) rfl (by kernel_rfl) (by kernel_rfl) (by kernel_rfl) (fun _ _ _ h => h) (Or.inl ⟨by rfl, ?_⟩) (by assumption) ?_
        rotate_left
        · intro w hSw
          try dsimp only at hSw
          go_simp
          try with_reducible rfl
        simp only [Act.put, List.setIfInBounds_toArray, List.set_cons_zero, List.set_cons_succ]
        refine wpAnyH_take (i := 4) (oi := ⟨some 17, _, _, _, _, _⟩) (v := ?_) rfl (by kernel_rfl) (by kernel_rfl) (by kernel_rfl) (fun _ _ _ h => h) (Or.inl ⟨by rfl, ?_⟩) (by assumption) ?_
        rotate_left
        · intro w hSw
          try dsimp only at hSw
          go_simp
          try with_reducible rfl
        simp only [Act.put, List.setIfInBounds_toArray, List.set_cons_zero, List.set_cons_succ]
        refine wpAnyH_take (i := 5) (oi := ⟨some 18, _, _, _, _, _⟩) (v := ?_) rfl (by kernel_rfl) (by kernel_rfl) (by kernel_rfl) (fun _ _ _ h => h) (Or.inl ⟨by rfl, ?_⟩) (by assumption) ?_
        rotate_left
        · intro w hSw
          try dsimp only at hSw
          go_simp
          try with_reducible rfl
        simp only [Act.put, List.setIfInBounds_toArray, List.set_cons_zero, List.set_cons_succ]
        refine wpAnyH_take (i := 6) (oi := ⟨some 19, _, _, _, _, _⟩) (v := ?_) rfl (by kernel_rfl) (by kernel_rfl) (by kernel_rfl) (fun _ _ _ h => h) (Or.inl ⟨by rfl, ?_⟩) (by assumption) ?_
        rotate_left
        · intro w hSw
          try dsimp only at hSw
          go_simp
          try with_reducible rfl
        simp only [Act.put, List.setIfInBounds_toArray, List.set_cons_zero, List.set_cons_succ]
        refine wpAnyH_take (i := 7) (oi := ⟨some 20, _, _, _, _, _⟩) (v := ?_) rfl (by kernel_rfl) (by kernel_rfl) (by kernel_rfl) (fun _ _ _ h => h) (Or.inl ⟨by rfl, ?_⟩) (by assumption) ?_
        rotate_left
        · intro w hSw
          try dsimp only at hSw
          go_simp
          try with_reducible rfl
        simp only [Act.put, List.setIfInBounds_toArray, List.set_cons_zero, List.set_cons_succ]
        have HE := hidP (hHeld.2.2.2.2.2.2.2)
        refine wpAnyH_done (by kernel_rfl) ?_ _
        clear hHeld
        go_wp2_with fail
        go_roundw
        case rel =>
          refine ⟨k + 1, by omega, by go_num, (fun j r hj hr => ?_), HBel.out.trans (HE.out.mono HBel.out.size)⟩
          by_cases hjk : j = k
          · subst hjk; rw [HQ.out] at hr; cases hr; simpa using hk2
          · exact HLow.out j r (by omega) hr
        case measure => simp [intOf]; omega
      · rw [hk2] at hE
        go_wp2_with fail
        have HSx : Hid (∀ x, Below wr.heap.size wr x → (x.cell? ⟨w.heap.size, 0, none⟩ = some (.slice (some ⟨p, o, none⟩) n c) ∧ x.cell? ⟨p, o + k * 6, none⟩ = some (.bool q.a.s) ∧ x.cell? ⟨p, o + k * 6 + 1, none⟩ = some (.int .i64 q.a.H.toInt) ∧ x.cell? ⟨p, o + k * 6 + 2, none⟩ = some (.int .i64 q.a.L.toInt) ∧ x.cell? ⟨w.heap.size + 1, 0, none⟩ = some (.bool ad.s) ∧ x.cell? ⟨w.heap.size + 1, 1, none⟩ = some (.int .i64 ad.H.toInt) ∧ x.cell? ⟨w.heap.size + 1, 2, none⟩ = some (.int .i64 ad.L.toInt) ∧ Below wr.heap.size wr x)) := hidP fun x h =>
          ⟨(h.cell BL).trans B0, (h.cell hpw).trans d0, (h.cell hpw).trans d1, (h.cell hpw).trans d2, (h.cell YL).trans Y0, (h.cell YL).trans Y1, (h.cell YL).trans Y2, h⟩
        refine wp_region_held_drew (S := (fun x => x.cell? ⟨w.heap.size, 0, none⟩ = some (.slice (some ⟨p, o, none⟩) n c) ∧ x.cell? ⟨p, o + k * 6, none⟩ = some (.bool q.a.s) ∧ x.cell? ⟨p, o + k * 6 + 1, none⟩ = some (.int .i64 q.a.H.toInt) ∧ x.cell? ⟨p, o + k * 6 + 2, none⟩ = some (.int .i64 q.a.L.toInt) ∧ x.cell? ⟨w.heap.size + 1, 0, none⟩ = some (.bool ad.s) ∧ x.cell? ⟨w.heap.size + 1, 1, none⟩ = some (.int .i64 ad.H.toInt) ∧ x.cell? ⟨w.heap.size + 1, 2, none⟩ = some (.int .i64 ad.L.toInt) ∧ Below wr.heap.size wr x)) (by kernel_rfl) ?_ (fun hHeld => ?_)
        · try dsimp only
          exact HSx.out _ ((Below.refl _ _).drew)
        refine wpAnyH_take (i := 0) (oi := ⟨some 13, _, _, _, _, _⟩) (v := ?_) rfl (by kernel_rfl) (by kernel_rfl) (by kernel_rfl) (fun _ _ _ h => h) (Or.inl ⟨by rfl, ?_⟩) (by assumption) ?_
        rotate_left
        · intro w hSw
          try dsimp only at hSw
          go_simp
          try with_reducible rfl
        simp only [Act.put, List.setIfInBounds_toArray, List.set_cons_zero, List.set_cons_succ]
        refine wpAnyH_take (i := 1) (oi := ⟨some 14, _, _, _, _, _⟩) (v := ?_) rfl (by kernel_rfl) (by kernel_rfl) (by kernel_rfl) (fun _ _ _ h => h) (Or.inl ⟨by rfl, ?_⟩) (by assumption) ?_
        rotate_left
        · intro w hSw
          try dsimp only at hSw
          go_simp
          try with_reducible rfl
        simp only [Act.put, List.setIfInBounds_toArray, List.set_cons_zero, List.set_cons_succ]
        refine wpAnyH_take (i := 2) (oi := ⟨some 15, _, _, _, _, _⟩) (v := ?_) rfl (by kernel_rfl) (by kernel_rfl) (by kernel_rfl) (fun _ _ _ h => h) (Or.inl ⟨by rfl, ?_⟩) (by assumption) ?_
        rotate_left
        · intro w hSw
          try dsimp only at hSw
          go_simp
          try with_reducible rfl
        simp only [Act.put, List.setIfInBounds_toArray, List.set_cons_zero, List.set_cons_succ]
        refine wpAnyH_take (i := 3) (oi := ⟨some 16, _, _, _, _, _⟩) (v := ?_) rfl (by kernel_rfl) (by kernel_rfl) (by kernel_rfl) (fun _ _ _ h => h) (Or.inl ⟨by rfl, ?_⟩) (by assumption) ?_
        rotate_left
        · intro w hSw
          try dsimp only at hSw
          go_simp
          try with_reducible rfl
        simp only [Act.put, List.setIfInBounds_toArray, List.set_cons_zero, List.set_cons_succ]
        refine wpAnyH_take (i := 4) (oi := ⟨some 17, _, _, _, _, _⟩) (v := ?_) rfl (by kernel_rfl) (by kernel_rfl) (by kernel_rfl) (fun _ _ _ h => h) (Or.inl ⟨by rfl, ?_⟩) (by assumption) ?_
        rotate_left
        · intro w hSw
          try dsimp only at hSw
          go_simp
          try with_reducible rfl
        simp only [Act.put, List.setIfInBounds_toArray, List.set_cons_zero, List.set_cons_succ]
        refine wpAnyH_take (i := 5) (oi := ⟨some 18, _, _, _, _, _⟩) (v := ?_) rfl (by kernel_rfl) (by kernel_rfl) (by kernel_rfl) (fun _ _ _ h => h) (Or.inl ⟨by rfl, ?_⟩) (by assumption) ?_
        rotate_left
        · intro w hSw
          try dsimp only at hSw
          go_simp
          try with_reducible rfl
        simp only [Act.put, List.setIfInBounds_toArray, List.set_cons_zero, List.set_cons_succ]
        refine wpAnyH_take (i := 6) (oi := ⟨some 19, _, _, _, _, _⟩) (v := ?_) rfl (by kernel_rfl) (by kernel_rfl) (by kernel_rfl) (fun _ _ _ h => h) (Or.inl ⟨by rfl, ?_⟩) (by assumption) ?_
        rotate_left
        · intro w hSw
          try dsimp only at hSw
          go_simp
          try with_reducible rfl
        simp only [Act.put, List.setIfInBounds_toArray, List.set_cons_zero, List.set_cons_succ]
        refine wpAnyH_take (i := 7) (oi := ⟨some 20, _, _, _, _, _⟩) (v := ?_) rfl (by kernel_rfl) (by kernel_rfl) (by kernel_rfl) (fun _ _ _ h => h) (Or.inl ⟨by rfl, ?_⟩) (by assumption) ?_
        rotate_left
        · intro w hSw
          try dsimp only at hSw
          go_simp
          try with_reducible rfl
        simp only [Act.put, List.setIfInBounds_toArray, List.set_cons_zero, List.set_cons_succ]
        have HE := hidP (hHeld.2.2.2.2.2.2.2)
        refine wpAnyH_done (by kernel_rfl) ?_ _
        clear hHeld
        go_wp2_with fail
        go_ret
        exact ⟨ret_i (Eq.symm (by unfold fxI; rw [fx_some HQ.out (by simpa using hk2) HLow.out])), HU.out.trans ((HBel.out.trans (HE.out.mono HBel.out.size)).mono HU.out.size)⟩
    · have HF : Hid (fxI ls ad = -1) := hidP (by
        unfold fxI
        rw [fx_none fun j r hr => HLow.out j r (by have := (List.getElem?_eq_some_iff.1 hr).1; have := HN.out; omega) hr])
      clear hbel
      go_wp2_with fail
      go_ret
      exact ⟨ret_i HF.out.symm, HU.out.trans (HBel.out.mono HU.out.size)⟩

set_option maxRecDepth 10000 in
set_option maxHeartbeats 2000000 in
theorem l6Held_none (a : Option Addr) (n c : Nat) (T N : Int) (ls : List Ls) (ad : Ad) (tk : Int) (w : World) (hn : n = ls.length) (hB : RowG KLs w a ls) (hl : n ≤ 1048576) (hx : fxL ls ad = none) :
    Calls Tryz.prog 73 #[.agg #[.slice a n c, .int .i64 T, .int .i64 N], .agg #[.bool ad.s, .int .i64 ad.H.toInt, .int .i64 ad.L.toInt], .int .i64 tk] w fun e w' => e = .returned (.tuple #[.int .i64 0, .int .i64 13]) ∧ Below w.heap.size w w' := by
  have HF := hidP (fun W h => l6Find_any a n c T N ls ad W hn (hB.later h) hl)
  have HR := hidP (fun W h => hB.later (w' := W) h)
  have HN := hidP hn
  clear hB hn
  have hfx : fxI ls ad = -1 := by unfold fxI; rw [hx]
  rw [hfx] at HF
  clear hfx
  go_enter Tryz.func73, Tryz.ntmps73
  go_wp2_with fail
  refine (HF.out _ ((alloc_below w _).alloc (by simp) _)).mono ?_
  rintro e w2 ⟨rfl, hb2⟩
  have bc0 : w2.cell? ⟨w.heap.size, 0, none⟩ = some (.slice a n c) := (hb2.cell (by simp; omega)).trans (by simp [go_sem])
  have A2 := hidP (((alloc_below w _).alloc (by simp) _).trans (hb2.mono (by simp; omega)))
  clear hb2
  go_wp2_with fail
  refine bodyPost_ret (v := .tuple #[.int .i64 0, .int .i64 13]) (by simp [results, Tryz.results73, go_sem]) rfl ?_
  exact ⟨rfl, A2.out⟩

set_option maxRecDepth 10000 in
set_option maxHeartbeats 2000000 in
theorem l6Held_fence (a : Option Addr) (n c : Nat) (T N : Int) (ls : List Ls) (ad : Ad) (tk : Int) (w : World) (hn : n = ls.length) (hB : RowG KLs w a ls) (hl : n ≤ 1048576) (I : Nat) (q : Ls) (hx : fxL ls ad = some I) (hq : ls[I]? = some q) (hk : ¬ q.k = tk) :
    Calls Tryz.prog 73 #[.agg #[.slice a n c, .int .i64 T, .int .i64 N], .agg #[.bool ad.s, .int .i64 ad.H.toInt, .int .i64 ad.L.toInt], .int .i64 tk] w fun e w' => e = .returned (.tuple #[.int .i64 0, .int .i64 14]) ∧ Below w.heap.size w w' := by
  have HF := hidP (fun W h => l6Find_any a n c T N ls ad W hn (hB.later h) hl)
  have HR := hidP (fun W h => hB.later (w' := W) h)
  have HN := hidP hn
  clear hB hn
  have hfx : fxI ls ad = (I : Int) := by unfold fxI; rw [hx]
  rw [hfx] at HF
  clear hfx
  have hi0 : ¬ ((I : Int) < 0) := by omega
  have hi1 : decide ((I : Int) < 0) = false := decide_eq_false hi0
  have i0 : (0 : Int) ≤ (I : Int) := by omega
  have i1 : (I : Int) < (n : Int) := by have := HN.out; have := (List.getElem?_eq_some_iff.1 hq).1; omega
  have hk1 : (q.k == tk) = false := beq_eq_false_iff_ne.2 hk
  go_enter Tryz.func73, Tryz.ntmps73
  go_wp2_with fail
  refine (HF.out _ ((alloc_below w _).alloc (by simp) _)).mono ?_
  rintro e w2 ⟨rfl, hb2⟩
  have bc0 : w2.cell? ⟨w.heap.size, 0, none⟩ = some (.slice a n c) := (hb2.cell (by simp; omega)).trans (by simp [go_sem])
  have A2 := hidP (((alloc_below w _).alloc (by simp) _).trans (hb2.mono (by simp; omega)))
  clear hb2
  obtain ⟨p, o, q', rfl, hp, hq', c0, c1, c2, c3, c4, c5⟩ := rowLs (HR.out _ A2.out) I (List.getElem?_eq_some_iff.1 hq).1
  rw [hq] at hq'
  cases hq'
  go_wp2_with fail
  refine bodyPost_ret (v := .tuple #[.int .i64 0, .int .i64 14]) (by simp [results, Tryz.results73, go_sem]) rfl ?_
  exact ⟨rfl, A2.out⟩

set_option maxRecDepth 10000 in
set_option maxHeartbeats 2000000 in
theorem l6Held_yes (a : Option Addr) (n c : Nat) (T N : Int) (ls : List Ls) (ad : Ad) (tk : Int) (w : World) (hn : n = ls.length) (hB : RowG KLs w a ls) (hl : n ≤ 1048576) (I : Nat) (q : Ls) (hx : fxL ls ad = some I) (hq : ls[I]? = some q) (hk : q.k = tk) :
    Calls Tryz.prog 73 #[.agg #[.slice a n c, .int .i64 T, .int .i64 N], .agg #[.bool ad.s, .int .i64 ad.H.toInt, .int .i64 ad.L.toInt], .int .i64 tk] w fun e w' => e = .returned (.tuple #[.int .i64 I, .int .i64 0]) ∧ Below w.heap.size w w' := by
  have HF := hidP (fun W h => l6Find_any a n c T N ls ad W hn (hB.later h) hl)
  have HR := hidP (fun W h => hB.later (w' := W) h)
  have HN := hidP hn
  clear hB hn
  have hfx : fxI ls ad = (I : Int) := by unfold fxI; rw [hx]
  rw [hfx] at HF
  clear hfx
  have hi0 : ¬ ((I : Int) < 0) := by omega
  have hi1 : decide ((I : Int) < 0) = false := decide_eq_false hi0
  have i0 : (0 : Int) ≤ (I : Int) := by omega
  have i1 : (I : Int) < (n : Int) := by have := HN.out; have := (List.getElem?_eq_some_iff.1 hq).1; omega
  have hk1 : (q.k == tk) = true := beq_iff_eq.2 hk
  go_enter Tryz.func73, Tryz.ntmps73
  go_wp2_with fail
  refine (HF.out _ ((alloc_below w _).alloc (by simp) _)).mono ?_
  rintro e w2 ⟨rfl, hb2⟩
  have bc0 : w2.cell? ⟨w.heap.size, 0, none⟩ = some (.slice a n c) := (hb2.cell (by simp; omega)).trans (by simp [go_sem])
  have A2 := hidP (((alloc_below w _).alloc (by simp) _).trans (hb2.mono (by simp; omega)))
  clear hb2
  obtain ⟨p, o, q', rfl, hp, hq', c0, c1, c2, c3, c4, c5⟩ := rowLs (HR.out _ A2.out) I (List.getElem?_eq_some_iff.1 hq).1
  rw [hq] at hq'
  cases hq'
  go_wp2_with fail
  refine bodyPost_ret (v := .tuple #[.int .i64 I, .int .i64 0]) (by simp [results, Tryz.results73, go_sem]) rfl ?_
  exact ⟨rfl, A2.out⟩

end Go.Proofs.YtddnofonodgneaaGreatDoor
