/-
  The specification's AddTo and the law's comparing of two addresses, by their plain twins; nothing old in memory turns.
-/
import Derived.Test.YtofnnpjadehgmaaDoorANrm
namespace Go.Proofs.YtofnnpjadehgmaaDoor
open Go.RowKit

set_option maxHeartbeats 1000000 in
theorem sAddTo_neg (s : Bool) (h l n : Int) (S : Bool) (H L : Int) (hz : Nrm s h l S H L) (hn : n < 0) (w : World) :
    Calls Tryd.prog 13 #[.agg #[.bool s, .int .i64 h, .int .i64 l], .int .i64 n] w fun e w' => e = .returned (.tuple #[.agg #[.bool false, .int .i64 0, .int .i64 0], .bool false]) ∧ Below w.heap.size w w' := by
  go_enter Tryd.func13, Tryd.ntmps13
  go_wp2_with fail
  refine (l1Addr_any _ _ _ _ _ _ hz _).mono ?_
  rintro e w1 ⟨rfl, hb⟩
  obtain ⟨hc, hf⟩ := olds (n := w.heap.size + 2) (hb.mono (by simp))
  have hz1 : w.heap.size + 1 < w1.heap.size := by have := hb.size; simp at this; omega
  have hz0 : w.heap.size < w1.heap.size := by omega
  have b1 : Below w.heap.size w w1 := (((Below.refl _ w).alloc (Nat.le_refl _) _).alloc (by simp) _).trans (hb.mono (by simp; omega))
  go_wp2_with fail
  refine bodyPost_ret (v := .tuple #[.agg #[.bool false, .int .i64 0, .int .i64 0], .bool false]) (by simp [results, Tryd.results13, go_sem, hc]) rfl ⟨rfl, ?_⟩
  repeat (first | with_reducible exact b1 | (with_reducible refine Below.setCell ?_ (by first | omega | (simp; done) | (simp; omega)) _) | (with_reducible refine Below.alloc ?_ (by first | omega | (simp; done) | (simp; omega)) _))

set_option maxHeartbeats 1000000 in
theorem sAddTo_four (s : Bool) (h l n : Int) (H L : Int) (hz : Nrm s h l false H L) (h0 : 0 ≤ L) (h1 : L ≤ 4294967295) (hn : 0 ≤ n) (hn1 : n ≤ 9223372036854775807) (hle : n ≤ 4294967295 - L) (w : World) :
    Calls Tryd.prog 13 #[.agg #[.bool s, .int .i64 h, .int .i64 l], .int .i64 n] w fun e w' => e = .returned (.tuple #[.agg #[.bool false, .int .i64 H, .int .i64 (L + n)], .bool true]) ∧ Below w.heap.size w w' := by
  go_enter Tryd.func13, Tryd.ntmps13
  go_wp2_with fail
  refine (l1Addr_any _ _ _ _ _ _ hz _).mono ?_
  rintro e w1 ⟨rfl, hb⟩
  obtain ⟨hc, hf⟩ := olds (n := w.heap.size + 2) (hb.mono (by simp))
  have hz1 : w.heap.size + 1 < w1.heap.size := by have := hb.size; simp at this; omega
  have hz0 : w.heap.size < w1.heap.size := by omega
  have b1 : Below w.heap.size w w1 := (((Below.refl _ w).alloc (Nat.le_refl _) _).alloc (by simp) _).trans (hb.mono (by simp; omega))
  go_wp2_with fail
  refine bodyPost_ret (v := .tuple #[.agg #[.bool false, .int .i64 H, .int .i64 (L + n)], .bool true]) (by simp [results, Tryd.results13, go_sem, hc, hz1]) rfl ⟨rfl, ?_⟩
  repeat (first | with_reducible exact b1 | (with_reducible refine Below.setCell ?_ (by first | omega | (simp; done) | (simp; omega)) _) | (with_reducible refine Below.alloc ?_ (by first | omega | (simp; done) | (simp; omega)) _))

set_option maxHeartbeats 1000000 in
theorem sAddTo_fourno (s : Bool) (h l n : Int) (H L : Int) (hz : Nrm s h l false H L) (h0 : 0 ≤ L) (h1 : L ≤ 4294967295) (hn : 0 ≤ n) (hn1 : n ≤ 9223372036854775807) (hle : 4294967295 - L < n) (w : World) :
    Calls Tryd.prog 13 #[.agg #[.bool s, .int .i64 h, .int .i64 l], .int .i64 n] w fun e w' => e = .returned (.tuple #[.agg #[.bool false, .int .i64 0, .int .i64 0], .bool false]) ∧ Below w.heap.size w w' := by
  go_enter Tryd.func13, Tryd.ntmps13
  go_wp2_with fail
  refine (l1Addr_any _ _ _ _ _ _ hz _).mono ?_
  rintro e w1 ⟨rfl, hb⟩
  obtain ⟨hc, hf⟩ := olds (n := w.heap.size + 2) (hb.mono (by simp))
  have hz1 : w.heap.size + 1 < w1.heap.size := by have := hb.size; simp at this; omega
  have hz0 : w.heap.size < w1.heap.size := by omega
  have b1 : Below w.heap.size w w1 := (((Below.refl _ w).alloc (Nat.le_refl _) _).alloc (by simp) _).trans (hb.mono (by simp; omega))
  go_wp2_with fail
  refine bodyPost_ret (v := .tuple #[.agg #[.bool false, .int .i64 0, .int .i64 0], .bool false]) (by simp [results, Tryd.results13, go_sem, hc, hz1]) rfl ⟨rfl, ?_⟩
  repeat (first | with_reducible exact b1 | (with_reducible refine Below.setCell ?_ (by first | omega | (simp; done) | (simp; omega)) _) | (with_reducible refine Below.alloc ?_ (by first | omega | (simp; done) | (simp; omega)) _))

set_option maxHeartbeats 1000000 in
theorem sAddTo_six (s : Bool) (h l n : Int) (H L : Int) (hz : Nrm s h l true H L) (hn : 0 ≤ n) (hu : Hid (ult (wrap64 (IntKind.u64.wrap (IntKind.u64.wrap L + IntKind.u64.wrap n))) L = false)) (w : World) :
    Calls Tryd.prog 13 #[.agg #[.bool s, .int .i64 h, .int .i64 l], .int .i64 n] w fun e w' => e = .returned (.tuple #[.agg #[.bool true, .int .i64 H, .int .i64 (wrap64 (IntKind.u64.wrap (IntKind.u64.wrap L + IntKind.u64.wrap n)))], .bool true]) ∧ Below w.heap.size w w' := by
  go_enter Tryd.func13, Tryd.ntmps13
  go_wp2_with fail
  refine (l1Addr_any _ _ _ _ _ _ hz _).mono ?_
  rintro e w1 ⟨rfl, hb⟩
  obtain ⟨hc, hf⟩ := olds (n := w.heap.size + 2) (hb.mono (by simp))
  have hz1 : w.heap.size + 1 < w1.heap.size := by have := hb.size; simp at this; omega
  have hz0 : w.heap.size < w1.heap.size := by omega
  have b1 : Below w.heap.size w w1 := (((Below.refl _ w).alloc (Nat.le_refl _) _).alloc (by simp) _).trans (hb.mono (by simp; omega))
  go_wp2_with fail
  refine (l1Less_any _ _ _).mono ?_
  rw [hu.out]
  rintro e w2 ⟨rfl, rfl⟩
  go_wp2_with fail
  refine bodyPost_ret (v := .tuple #[.agg #[.bool true, .int .i64 H, .int .i64 (wrap64 (IntKind.u64.wrap (IntKind.u64.wrap L + IntKind.u64.wrap n)))], .bool true]) (by simp [results, Tryd.results13, go_sem, hc, hz1]) rfl ⟨rfl, ?_⟩
  repeat (first | with_reducible exact b1 | (with_reducible refine Below.setCell ?_ (by first | omega | (simp; done) | (simp; omega)) _) | (with_reducible refine Below.alloc ?_ (by first | omega | (simp; done) | (simp; omega)) _))

set_option maxHeartbeats 1000000 in
theorem sAddTo_sixc (s : Bool) (h l n : Int) (H L : Int) (hz : Nrm s h l true H L) (hn : 0 ≤ n) (hu : Hid (ult (wrap64 (IntKind.u64.wrap (IntKind.u64.wrap L + IntKind.u64.wrap n))) L = true)) (hg : ((wrap64 (IntKind.u64.wrap (IntKind.u64.wrap H + 1))) == 0) = false) (w : World) :
    Calls Tryd.prog 13 #[.agg #[.bool s, .int .i64 h, .int .i64 l], .int .i64 n] w fun e w' => e = .returned (.tuple #[.agg #[.bool true, .int .i64 (wrap64 (IntKind.u64.wrap (IntKind.u64.wrap H + 1))), .int .i64 (wrap64 (IntKind.u64.wrap (IntKind.u64.wrap L + IntKind.u64.wrap n)))], .bool true]) ∧ Below w.heap.size w w' := by
  go_enter Tryd.func13, Tryd.ntmps13
  go_wp2_with fail
  refine (l1Addr_any _ _ _ _ _ _ hz _).mono ?_
  rintro e w1 ⟨rfl, hb⟩
  obtain ⟨hc, hf⟩ := olds (n := w.heap.size + 2) (hb.mono (by simp))
  have hz1 : w.heap.size + 1 < w1.heap.size := by have := hb.size; simp at this; omega
  have hz0 : w.heap.size < w1.heap.size := by omega
  have b1 : Below w.heap.size w w1 := (((Below.refl _ w).alloc (Nat.le_refl _) _).alloc (by simp) _).trans (hb.mono (by simp; omega))
  go_wp2_with fail
  refine (l1Less_any _ _ _).mono ?_
  rw [hu.out]
  rintro e w2 ⟨rfl, rfl⟩
  go_wp2_with fail
  refine bodyPost_ret (v := .tuple #[.agg #[.bool true, .int .i64 (wrap64 (IntKind.u64.wrap (IntKind.u64.wrap H + 1))), .int .i64 (wrap64 (IntKind.u64.wrap (IntKind.u64.wrap L + IntKind.u64.wrap n)))], .bool true]) (by simp [results, Tryd.results13, go_sem, hc, hz1]) rfl ⟨rfl, ?_⟩
  repeat (first | with_reducible exact b1 | (with_reducible refine Below.setCell ?_ (by first | omega | (simp; done) | (simp; omega)) _) | (with_reducible refine Below.alloc ?_ (by first | omega | (simp; done) | (simp; omega)) _))

set_option maxHeartbeats 1000000 in
theorem sAddTo_sixno (s : Bool) (h l n : Int) (H L : Int) (hz : Nrm s h l true H L) (hn : 0 ≤ n) (hu : Hid (ult (wrap64 (IntKind.u64.wrap (IntKind.u64.wrap L + IntKind.u64.wrap n))) L = true)) (hg : ((wrap64 (IntKind.u64.wrap (IntKind.u64.wrap H + 1))) == 0) = true) (w : World) :
    Calls Tryd.prog 13 #[.agg #[.bool s, .int .i64 h, .int .i64 l], .int .i64 n] w fun e w' => e = .returned (.tuple #[.agg #[.bool false, .int .i64 0, .int .i64 0], .bool false]) ∧ Below w.heap.size w w' := by
  go_enter Tryd.func13, Tryd.ntmps13
  go_wp2_with fail
  refine (l1Addr_any _ _ _ _ _ _ hz _).mono ?_
  rintro e w1 ⟨rfl, hb⟩
  obtain ⟨hc, hf⟩ := olds (n := w.heap.size + 2) (hb.mono (by simp))
  have hz1 : w.heap.size + 1 < w1.heap.size := by have := hb.size; simp at this; omega
  have hz0 : w.heap.size < w1.heap.size := by omega
  have b1 : Below w.heap.size w w1 := (((Below.refl _ w).alloc (Nat.le_refl _) _).alloc (by simp) _).trans (hb.mono (by simp; omega))
  go_wp2_with fail
  refine (l1Less_any _ _ _).mono ?_
  rw [hu.out]
  rintro e w2 ⟨rfl, rfl⟩
  go_wp2_with fail
  refine bodyPost_ret (v := .tuple #[.agg #[.bool false, .int .i64 0, .int .i64 0], .bool false]) (by simp [results, Tryd.results13, go_sem, hc, hz1]) rfl ⟨rfl, ?_⟩
  repeat (first | with_reducible exact b1 | (with_reducible refine Below.setCell ?_ (by first | omega | (simp; done) | (simp; omega)) _) | (with_reducible refine Below.alloc ?_ (by first | omega | (simp; done) | (simp; omega)) _))

set_option maxHeartbeats 400000 in
theorem eqAddr_same (S : Bool) (H L : Int) (w : World) :
    Calls Tryd.prog 17 #[.agg #[.bool S, .int .i64 H, .int .i64 L], .agg #[.bool S, .int .i64 H, .int .i64 L]] w fun e w' => e = .returned (.bool true) ∧ Below w.heap.size w w' := by
  go_enter Tryd.func17, Tryd.ntmps17
  go_wp2
  go_ret
  exact ⟨rfl, ((Below.refl _ w).alloc (Nat.le_refl _) _).alloc (by simp) _⟩

end Go.Proofs.YtofnnpjadehgmaaDoor
