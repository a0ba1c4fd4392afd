/-
  Both Holder.
-/
import Derived.Test.YtgackacnlnagmaaDoorV6Hld
import Derived.Test.YtgackacnlnagmaaDoorV6Code
namespace Go.Proofs.YtgackacnlnagmaaDoor
open Go.RowKit

set_option maxRecDepth 10000 in
set_option maxHeartbeats 2000000 in
theorem iHolder_no (a : Option Addr) (n c : Nat) (T N : Int) (_ls : List Ls) (ad : Ad) (tk : Int) (w : World) (x : Int) (HP : ∀ W, Below w.heap.size w W → Calls Tryd.prog 31 #[.agg #[.slice a n c, .int .i64 T, .int .i64 N], .agg #[.bool ad.s, .int .i64 ad.H.toInt, .int .i64 ad.L.toInt], .int .i64 tk] W fun e w' => e = .returned (.tuple #[.int .i64 0, .iface 72 (.agg #[.int .i64 x])]) ∧ Below W.heap.size W w') (hg : GlobE w) :
    Calls Tryd.prog 17 #[.agg #[.slice a n c, .int .i64 T, .int .i64 N], .agg #[.bool ad.s, .int .i64 ad.H.toInt, .int .i64 ad.L.toInt], .int .i64 tk] w fun e w' => e = .returned (.tuple #[.string ⟨#[]⟩, .int .i64 x]) ∧ Below w.heap.size w w' := by
  have HPh := hidP HP
  have HG := hidP hg
  clear HP hg
  go_enter Tryd.func17, Tryd.ntmps17
  go_wp2_with fail
  refine (HPh.out _ ((alloc_below w _).alloc (by simp) _)).mono ?_
  rintro e w2 ⟨rfl, hb2⟩
  have A2 := hidP (((alloc_below w _).alloc (by simp) _).trans (hb2.mono (by simp; omega)))
  clear hb2
  go_wp2_with fail
  refine (leaseCode_any x _ (HG.out.later A2.out)).mono ?_
  rintro e w3 ⟨rfl, hb3⟩
  have A3 := hidP (A2.out.trans (hb3.mono A2.out.size))
  clear hb3
  go_wp2_with fail
  refine bodyPost_ret (v := .tuple #[.string ⟨#[]⟩, .int .i64 x]) (by simp [results, Tryd.results17, go_sem]) rfl ?_
  exact ⟨rfl, A3.out⟩

set_option maxRecDepth 10000 in
set_option maxHeartbeats 2000000 in
theorem iHolder_yes (a : Option Addr) (n c : Nat) (T N : Int) (ls : List Ls) (ad : Ad) (tk : Int) (w : World) (I : Nat) (q : Ls) (hq : ls[I]? = some q) (hn : n = ls.length) (hB : RowG KLs w a ls) (HP : ∀ W, Below w.heap.size w W → Calls Tryd.prog 31 #[.agg #[.slice a n c, .int .i64 T, .int .i64 N], .agg #[.bool ad.s, .int .i64 ad.H.toInt, .int .i64 ad.L.toInt], .int .i64 tk] W fun e w' => e = .returned (.tuple #[.int .i64 I, .nilIface]) ∧ Below W.heap.size W w') :
    Calls Tryd.prog 17 #[.agg #[.slice a n c, .int .i64 T, .int .i64 N], .agg #[.bool ad.s, .int .i64 ad.H.toInt, .int .i64 ad.L.toInt], .int .i64 tk] w fun e w' => e = .returned (.tuple #[.string q.t, .int .i64 0]) ∧ Below w.heap.size w w' := by
  have HPh := hidP HP
  have HR := hidP (fun W h => hB.later (w' := W) h)
  have HN := hidP hn
  clear HP hB hn
  go_enter Tryd.func17, Tryd.ntmps17
  go_wp2_with fail
  refine (HPh.out _ ((alloc_below w _).alloc (by simp) _)).mono ?_
  rintro e w2 ⟨rfl, hb2⟩
  have bc0 : w2.cell? ⟨w.heap.size, 0, none⟩ = some (.slice a n c) := (hb2.cell (by simp; omega)).trans (by simp [go_sem])
  have A2 := hidP (((alloc_below w _).alloc (by simp) _).trans (hb2.mono (by simp; omega)))
  clear hb2
  obtain ⟨p, o, q', rfl, hp, hq', c0, c1, c2, c3, c4, c5⟩ := rowLs (HR.out _ A2.out) I (List.getElem?_eq_some_iff.1 hq).1
  rw [hq] at hq'
  cases hq'
  have i0 : (0 : Int) ≤ (I : Int) := by omega
  have i1 : (I : Int) < (n : Int) := by have := (List.getElem?_eq_some_iff.1 hq).1; have := HN.out; omega
  go_wp2_with fail
  refine bodyPost_ret (v := .tuple #[.string q.t, .int .i64 0]) (by simp [results, Tryd.results17, go_sem]) rfl ?_
  exact ⟨rfl, A2.out⟩

set_option maxRecDepth 10000 in
set_option maxHeartbeats 2000000 in
theorem sHolder_form (a : Option Addr) (n c : Nat) (T N : Int) (ls : List Ls) (ad : Ad) (tk : Int) (w : World) (hn : n = ls.length) (hB : RowG KLs w a ls) (hl : n ≤ 1048576) (hst : ∀ q ∈ ls, q.t.size ≤ 9223372036854775807) (hr : (bkB ls T N && ad.ok) = false) :
    Calls Tryd.prog 16 #[.agg #[.slice a n c, .int .i64 T, .int .i64 N], .agg #[.bool ad.s, .int .i64 ad.H.toInt, .int .i64 ad.L.toInt], .int .i64 tk] w fun e w' => e = .returned (.tuple #[.string ⟨#[]⟩, .int .i64 10]) ∧ Below w.heap.size w w' := by
  have HSp := hidP (fun W h => sBookOk_any a n c T N ls W hn (hB.later h) hl hst)
  have HAd := hidP (sAddrOk_any ad.s ad.H.toInt ad.L.toInt)
  have hok : ad.ok = okB ad.s ad.H.toInt ad.L.toInt := rfl
  rw [hok] at hr
  clear hB hn hst hok
  cases hb : bkB ls T N
  · rw [hb] at HSp
    go_enter Tryd.func16, Tryd.ntmps16
    go_wp2_with fail
    refine (HSp.out _ ((alloc_below w _).alloc (by simp) _)).mono ?_
    rintro e w2 ⟨rfl, hb2⟩
    have A2 := hidP (((alloc_below w _).alloc (by simp) _).trans (hb2.mono (by simp; omega)))
    clear hb2
    go_wp2_with fail
    refine bodyPost_ret (v := .tuple #[.string ⟨#[]⟩, .int .i64 10]) (by simp [results, Tryd.results16, go_sem]) rfl ?_
    exact ⟨rfl, A2.out⟩
  · rw [hb] at HSp hr
    rw [Bool.true_and] at hr
    rw [hr] at HAd
    go_enter Tryd.func16, Tryd.ntmps16
    go_wp2_with fail
    refine (HSp.out _ ((alloc_below w _).alloc (by simp) _)).mono ?_
    rintro e w2 ⟨rfl, hb2⟩
    have ac0 : w2.cell? ⟨w.heap.size + 1, 0, none⟩ = some (.bool ad.s) := (hb2.cell (by simp)).trans (by simp [go_sem])
    have ac1 : w2.cell? ⟨w.heap.size + 1, 1, none⟩ = some (.int .i64 ad.H.toInt) := (hb2.cell (by simp)).trans (by simp [go_sem])
    have ac2 : w2.cell? ⟨w.heap.size + 1, 2, none⟩ = some (.int .i64 ad.L.toInt) := (hb2.cell (by simp)).trans (by simp [go_sem])
    have A2 := hidP (((alloc_below w _).alloc (by simp) _).trans (hb2.mono (by simp; omega)))
    clear hb2
    go_wp2_with fail
    refine (HAd.out _).mono ?_
    rintro e w3 ⟨rfl, hb3⟩
    have A3 := hidP (A2.out.trans (hb3.mono A2.out.size))
    clear hb3
    go_wp2_with fail
    refine bodyPost_ret (v := .tuple #[.string ⟨#[]⟩, .int .i64 10]) (by simp [results, Tryd.results16, go_sem]) rfl ?_
    exact ⟨rfl, A3.out⟩

set_option maxRecDepth 10000 in
set_option maxHeartbeats 2000000 in
theorem sHolder_code (a : Option Addr) (n c : Nat) (T N : Int) (ls : List Ls) (ad : Ad) (tk : Int) (w : World) (hn : n = ls.length) (hB : RowG KLs w a ls) (hl : n ≤ 1048576) (hst : ∀ q ∈ ls, q.t.size ≤ 9223372036854775807) (hr : (bkB ls T N && ad.ok) = true) (x : Int) (hx0 : ¬ x = 0) (HL : ∀ W, Below w.heap.size w W → Calls Tryd.prog 23 #[.agg #[.slice a n c, .int .i64 T, .int .i64 N], .agg #[.bool ad.s, .int .i64 ad.H.toInt, .int .i64 ad.L.toInt], .int .i64 tk] W fun e w' => e = .returned (.tuple #[.int .i64 0, .int .i64 x]) ∧ Below W.heap.size W w') :
    Calls Tryd.prog 16 #[.agg #[.slice a n c, .int .i64 T, .int .i64 N], .agg #[.bool ad.s, .int .i64 ad.H.toInt, .int .i64 ad.L.toInt], .int .i64 tk] w fun e w' => e = .returned (.tuple #[.string ⟨#[]⟩, .int .i64 x]) ∧ Below w.heap.size w w' := by
  have HSp := hidP (fun W h => sBookOk_any a n c T N ls W hn (hB.later h) hl hst)
  have HAd := hidP (sAddrOk_any ad.s ad.H.toInt ad.L.toInt)
  have HLd := hidP HL
  have HR := hidP (fun W h => hB.later (w' := W) h)
  have HN := hidP hn
  rw [Bool.and_eq_true] at hr
  have hok' : okB ad.s ad.H.toInt ad.L.toInt = true := hr.2
  rw [hr.1] at HSp
  rw [hok'] at HAd
  clear hB hn hst HL hr hok'
  have hx1 : (x == 0) = false := beq_eq_false_iff_ne.2 hx0
  go_enter Tryd.func16, Tryd.ntmps16
  go_wp2_with fail
  refine (HSp.out _ ((alloc_below w _).alloc (by simp) _)).mono ?_
  rintro e w2 ⟨rfl, hb2⟩
  have ac0 : w2.cell? ⟨w.heap.size + 1, 0, none⟩ = some (.bool ad.s) := (hb2.cell (by simp)).trans (by simp [go_sem])
  have ac1 : w2.cell? ⟨w.heap.size + 1, 1, none⟩ = some (.int .i64 ad.H.toInt) := (hb2.cell (by simp)).trans (by simp [go_sem])
  have ac2 : w2.cell? ⟨w.heap.size + 1, 2, none⟩ = some (.int .i64 ad.L.toInt) := (hb2.cell (by simp)).trans (by simp [go_sem])
  have bc0 : w2.cell? ⟨w.heap.size, 0, none⟩ = some (.slice a n c) := (hb2.cell (by simp; omega)).trans (by simp [go_sem])
  have bc1 : w2.cell? ⟨w.heap.size, 1, none⟩ = some (.int .i64 T) := (hb2.cell (by simp; omega)).trans (by simp [go_sem])
  have bc2 : w2.cell? ⟨w.heap.size, 2, none⟩ = some (.int .i64 N) := (hb2.cell (by simp; omega)).trans (by simp [go_sem])
  have aL : w.heap.size + 1 < w2.heap.size := by have := hb2.size; simp at this; omega
  have bL : w.heap.size < w2.heap.size := by omega
  have A2 := hidP (((alloc_below w _).alloc (by simp) _).trans (hb2.mono (by simp; omega)))
  clear hb2
  go_wp2_with fail
  refine (HAd.out _).mono ?_
  rintro e w3 ⟨rfl, hb3⟩
  have ad0 := (hb3.cell aL).trans ac0
  have ad1 := (hb3.cell aL).trans ac1
  have ad2 := (hb3.cell aL).trans ac2
  have bd0 := (hb3.cell bL).trans bc0
  have bd1 := (hb3.cell bL).trans bc1
  have bd2 := (hb3.cell bL).trans bc2
  have bL3 : w.heap.size < w3.heap.size := Nat.lt_of_lt_of_le bL hb3.size
  have A3 := hidP (A2.out.trans (hb3.mono A2.out.size))
  clear hb3 ac0 ac1 ac2 bc0 bc1 bc2 aL bL
  go_wp2_with fail
  refine (HLd.out _ A3.out).mono ?_
  rintro e w4 ⟨rfl, hb4⟩
  have be0 := (hb4.cell bL3).trans bd0
  have A4 := hidP (A3.out.trans (hb4.mono A3.out.size))
  clear hb4 ad0 ad1 ad2 bd0 bd1 bd2
  go_wp2_with fail
  refine bodyPost_ret (v := .tuple #[.string ⟨#[]⟩, .int .i64 x]) (by simp [results, Tryd.results16, go_sem]) rfl ?_
  exact ⟨rfl, A4.out⟩

set_option maxRecDepth 10000 in
set_option maxHeartbeats 2000000 in
theorem sHolder_yes (a : Option Addr) (n c : Nat) (T N : Int) (ls : List Ls) (ad : Ad) (tk : Int) (w : World) (hn : n = ls.length) (hB : RowG KLs w a ls) (hl : n ≤ 1048576) (hst : ∀ q ∈ ls, q.t.size ≤ 9223372036854775807) (hr : (bkB ls T N && ad.ok) = true) (I : Nat) (q : Ls) (hq : ls[I]? = some q) (HL : ∀ W, Below w.heap.size w W → Calls Tryd.prog 23 #[.agg #[.slice a n c, .int .i64 T, .int .i64 N], .agg #[.bool ad.s, .int .i64 ad.H.toInt, .int .i64 ad.L.toInt], .int .i64 tk] W fun e w' => e = .returned (.tuple #[.int .i64 I, .int .i64 0]) ∧ Below W.heap.size W w') :
    Calls Tryd.prog 16 #[.agg #[.slice a n c, .int .i64 T, .int .i64 N], .agg #[.bool ad.s, .int .i64 ad.H.toInt, .int .i64 ad.L.toInt], .int .i64 tk] w fun e w' => e = .returned (.tuple #[.string q.t, .int .i64 0]) ∧ Below w.heap.size w w' := by
  have HSp := hidP (fun W h => sBookOk_any a n c T N ls W hn (hB.later h) hl hst)
  have HAd := hidP (sAddrOk_any ad.s ad.H.toInt ad.L.toInt)
  have HLd := hidP HL
  have HR := hidP (fun W h => hB.later (w' := W) h)
  have HN := hidP hn
  rw [Bool.and_eq_true] at hr
  have hok' : okB ad.s ad.H.toInt ad.L.toInt = true := hr.2
  rw [hr.1] at HSp
  rw [hok'] at HAd
  clear hB hn hst HL hr hok'
  go_enter Tryd.func16, Tryd.ntmps16
  go_wp2_with fail
  refine (HSp.out _ ((alloc_below w _).alloc (by simp) _)).mono ?_
  rintro e w2 ⟨rfl, hb2⟩
  have ac0 : w2.cell? ⟨w.heap.size + 1, 0, none⟩ = some (.bool ad.s) := (hb2.cell (by simp)).trans (by simp [go_sem])
  have ac1 : w2.cell? ⟨w.heap.size + 1, 1, none⟩ = some (.int .i64 ad.H.toInt) := (hb2.cell (by simp)).trans (by simp [go_sem])
  have ac2 : w2.cell? ⟨w.heap.size + 1, 2, none⟩ = some (.int .i64 ad.L.toInt) := (hb2.cell (by simp)).trans (by simp [go_sem])
  have bc0 : w2.cell? ⟨w.heap.size, 0, none⟩ = some (.slice a n c) := (hb2.cell (by simp; omega)).trans (by simp [go_sem])
  have bc1 : w2.cell? ⟨w.heap.size, 1, none⟩ = some (.int .i64 T) := (hb2.cell (by simp; omega)).trans (by simp [go_sem])
  have bc2 : w2.cell? ⟨w.heap.size, 2, none⟩ = some (.int .i64 N) := (hb2.cell (by simp; omega)).trans (by simp [go_sem])
  have aL : w.heap.size + 1 < w2.heap.size := by have := hb2.size; simp at this; omega
  have bL : w.heap.size < w2.heap.size := by omega
  have A2 := hidP (((alloc_below w _).alloc (by simp) _).trans (hb2.mono (by simp; omega)))
  clear hb2
  go_wp2_with fail
  refine (HAd.out _).mono ?_
  rintro e w3 ⟨rfl, hb3⟩
  have ad0 := (hb3.cell aL).trans ac0
  have ad1 := (hb3.cell aL).trans ac1
  have ad2 := (hb3.cell aL).trans ac2
  have bd0 := (hb3.cell bL).trans bc0
  have bd1 := (hb3.cell bL).trans bc1
  have bd2 := (hb3.cell bL).trans bc2
  have bL3 : w.heap.size < w3.heap.size := Nat.lt_of_lt_of_le bL hb3.size
  have A3 := hidP (A2.out.trans (hb3.mono A2.out.size))
  clear hb3 ac0 ac1 ac2 bc0 bc1 bc2 aL bL
  go_wp2_with fail
  refine (HLd.out _ A3.out).mono ?_
  rintro e w4 ⟨rfl, hb4⟩
  have be0 := (hb4.cell bL3).trans bd0
  have A4 := hidP (A3.out.trans (hb4.mono A3.out.size))
  clear hb4 ad0 ad1 ad2 bd0 bd1 bd2
  obtain ⟨p, o, q', rfl, hp, hq', c0, c1, c2, c3, c4, c5⟩ := rowLs (HR.out _ A4.out) I (List.getElem?_eq_some_iff.1 hq).1
  rw [hq] at hq'
  cases hq'
  have i0 : (0 : Int) ≤ (I : Int) := by omega
  have i1 : (I : Int) < (n : Int) := by have := (List.getElem?_eq_some_iff.1 hq).1; have := HN.out; omega
  go_wp2_with fail
  refine bodyPost_ret (v := .tuple #[.string q.t, .int .i64 0]) (by simp [results, Tryd.results16, go_sem]) rfl ?_
  exact ⟨rfl, A4.out⟩

theorem holder_both (n : Nat) (T N : Int) (ls : List Ls) (ad : Ad) (tk : Int) (hn : n = ls.length) (hl : n ≤ 1048576) (hst : ∀ q ∈ ls, q.t.size ≤ 9223372036854775807) :
    ∃ (S : ByteArray) (C : Int), (∀ (g : Nat) (W : World), RowG KLs W (some ⟨g, 0, none⟩) ls → Calls Tryd.prog 16 #[.agg #[.slice (some ⟨g, 0, none⟩) n n, .int .i64 T, .int .i64 N], .agg #[.bool ad.s, .int .i64 ad.H.toInt, .int .i64 ad.L.toInt], .int .i64 tk] W fun e w' => e = .returned (.tuple #[.string S, .int .i64 C]) ∧ Below W.heap.size W w') ∧ (∀ (g : Nat) (W : World), RowG KLs W (some ⟨g, 0, none⟩) ls → GlobE W → Calls Tryd.prog 17 #[.agg #[.slice (some ⟨g, 0, none⟩) n n, .int .i64 T, .int .i64 N], .agg #[.bool ad.s, .int .i64 ad.H.toInt, .int .i64 ad.L.toInt], .int .i64 tk] W fun e w' => e = .returned (.tuple #[.string S, .int .i64 C]) ∧ Below W.heap.size W w') := by
  cases hr : (bkB ls T N && ad.ok)
  · exact ⟨⟨#[]⟩, 10, fun g W e1 => sHolder_form _ n n T N ls ad tk W hn e1 hl hst hr, fun g W e1 hg => iHolder_no _ n n T N ls ad tk W 10 (fun W' hb => placeHeld_form _ n n T N ls ad tk W' hn (e1.later hb) hl hst hr) hg⟩
  · cases hx : fxL ls ad with
    | none => exact ⟨⟨#[]⟩, 13, fun g W e1 => sHolder_code _ n n T N ls ad tk W hn e1 hl hst hr 13 (by omega) (fun W' hb => l6Held_none _ n n T N ls ad tk W' hn (e1.later hb) hl hx), fun g W e1 hg => iHolder_no _ n n T N ls ad tk W 13 (fun W' hb => placeHeld_none _ n n T N ls ad tk W' hn (e1.later hb) hl hst hr hx) hg⟩
    | some I =>
      obtain ⟨q, hq, _, _⟩ := fx_at hx
      by_cases hk : q.k = tk
      · exact ⟨q.t, 0, fun g W e1 => sHolder_yes _ n n T N ls ad tk W hn e1 hl hst hr I q hq (fun W' hb => l6Held_yes _ n n T N ls ad tk W' hn (e1.later hb) hl I q hx hq hk), fun g W e1 _ => iHolder_yes _ n n T N ls ad tk W I q hq hn e1 (fun W' hb => placeHeld_yes _ n n T N ls ad tk W' hn (e1.later hb) hl hst hr I q hx hq hk)⟩
      · exact ⟨⟨#[]⟩, 14, fun g W e1 => sHolder_code _ n n T N ls ad tk W hn e1 hl hst hr 14 (by omega) (fun W' hb => l6Held_fence _ n n T N ls ad tk W' hn (e1.later hb) hl I q hx hq hk), fun g W e1 hg => iHolder_no _ n n T N ls ad tk W 14 (fun W' hb => placeHeld_fence _ n n T N ls ad tk W' hn (e1.later hb) hl hst hr I q hx hq hk) hg⟩

end Go.Proofs.YtgackacnlnagmaaDoor
