/-
  Both Holder.
-/
import Derived.Test.YtddnofonodgneaaGreatDoorV6Hld
import Derived.Test.YtddnofonodgneaaGreatDoorV6Code
namespace Go.Proofs.YtddnofonodgneaaGreatDoor
open Go.RowKit

set_option maxRecDepth 10000 in
set_option maxHeartbeats 2000000 in
theorem iHolder_no (a : Option Addr) (n c : Nat) (T N : Int) (_ls : List Ls) (ad : Ad) (tk : Int) (w : World) (x : Int) (HP : ∀ W, Below w.heap.size w W → Calls Tryz.prog 35 #[.agg #[.slice a n c, .int .i64 T, .int .i64 N], .agg #[.bool ad.s, .int .i64 ad.H.toInt, .int .i64 ad.L.toInt], .int .i64 tk] W fun e w' => e = .returned (.tuple #[.int .i64 0, .iface 89 (.agg #[.int .i64 x])]) ∧ Below W.heap.size W w') (hg : GlobE w) :
    Calls Tryz.prog 10 #[.agg #[.slice a n c, .int .i64 T, .int .i64 N], .agg #[.bool ad.s, .int .i64 ad.H.toInt, .int .i64 ad.L.toInt], .int .i64 tk] w fun e w' => e = .returned (.tuple #[.string ⟨#[]⟩, .int .i64 x]) ∧ Below w.heap.size w w' := by
  have HPh := hidP HP
  have HG := hidP hg
  clear HP hg
  go_enter Tryz.func10, Tryz.ntmps10
  go_wp2_with fail
  refine (HPh.out _ ((alloc_below w _).alloc (by simp) _)).mono ?_
  rintro e w2 ⟨rfl, hb2⟩
  have A2 := hidP (((alloc_below w _).alloc (by simp) _).trans (hb2.mono (by simp; omega)))
  clear hb2
  go_wp2_with fail
  refine (leaseCode_any x _ (HG.out.later A2.out)).mono ?_
  rintro e w3 ⟨rfl, hb3⟩
  have A3 := hidP (A2.out.trans (hb3.mono A2.out.size))
  clear hb3
  go_wp2_with fail
  refine bodyPost_ret (v := .tuple #[.string ⟨#[]⟩, .int .i64 x]) (by simp [results, Tryz.results10, go_sem]) rfl ?_
  exact ⟨rfl, A3.out⟩

set_option maxRecDepth 10000 in
set_option maxHeartbeats 2000000 in
theorem iHolder_yes (a : Option Addr) (n c : Nat) (T N : Int) (ls : List Ls) (ad : Ad) (tk : Int) (w : World) (I : Nat) (q : Ls) (hq : ls[I]? = some q) (hn : n = ls.length) (hB : RowG KLs w a ls) (HP : ∀ W, Below w.heap.size w W → Calls Tryz.prog 35 #[.agg #[.slice a n c, .int .i64 T, .int .i64 N], .agg #[.bool ad.s, .int .i64 ad.H.toInt, .int .i64 ad.L.toInt], .int .i64 tk] W fun e w' => e = .returned (.tuple #[.int .i64 I, .nilIface]) ∧ Below W.heap.size W w') :
    Calls Tryz.prog 10 #[.agg #[.slice a n c, .int .i64 T, .int .i64 N], .agg #[.bool ad.s, .int .i64 ad.H.toInt, .int .i64 ad.L.toInt], .int .i64 tk] w fun e w' => e = .returned (.tuple #[.string q.t, .int .i64 0]) ∧ Below w.heap.size w w' := by
  have HPh := hidP HP
  have HR := hidP (fun W h => hB.later (w' := W) h)
  have HN := hidP hn
  clear HP hB hn
  go_enter Tryz.func10, Tryz.ntmps10
  go_wp2_with fail
  refine (HPh.out _ ((alloc_below w _).alloc (by simp) _)).mono ?_
  rintro e w2 ⟨rfl, hb2⟩
  have bc0 : w2.cell? ⟨w.heap.size, 0, none⟩ = some (.slice a n c) := (hb2.cell (by simp; omega)).trans (by simp [go_sem])
  have A2 := hidP (((alloc_below w _).alloc (by simp) _).trans (hb2.mono (by simp; omega)))
  clear hb2
  obtain ⟨p, o, q', rfl, hp, hq', c0, c1, c2, c3, c4, c5⟩ := rowLs (HR.out _ A2.out) I (List.getElem?_eq_some_iff.1 hq).1
  rw [hq] at hq'
  cases hq'
  have i0 : (0 : Int) ≤ (I : Int) := by omega
  have i1 : (I : Int) < (n : Int) := by have := (List.getElem?_eq_some_iff.1 hq).1; have := HN.out; omega
  go_wp2_with fail
  refine bodyPost_ret (v := .tuple #[.string q.t, .int .i64 0]) (by simp [results, Tryz.results10, go_sem]) rfl ?_
  exact ⟨rfl, A2.out⟩

end Go.Proofs.YtddnofonodgneaaGreatDoor
