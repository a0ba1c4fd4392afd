/-
  The laws' copies of files, looks at them, marks and sizes.
-/
import Derived.Test.YtfhlplpiojhhmaaRByte
namespace Go.Proofs.Ytfhlplpiojhhmaa
open Go.ChangeShapes Go.WideShapes Go.ChangeAt Go.RowKit Go.Joins Go.Deep

def szT (t : Int) : Int := if t ≤ 1048576 then 1048576 - t else -1
theorem szT_yes {t : Int} (h : t ≤ 1048576) : szT t = 1048576 - t := by unfold szT; rw [if_pos h]
theorem szT_no {t : Int} (h : ¬ t ≤ 1048576) : szT t = -1 := by unfold szT; rw [if_neg h]
theorem box2D (w : World) (t : TypeId) (u v : Value) : (w.alloc (.cells #[u, v] t)).cell? ⟨w.heap.size, 0, none⟩ = some u ∧ (w.alloc (.cells #[u, v] t)).cell? ⟨w.heap.size, 1, none⟩ = some v := ⟨by simp [go_sem], by simp [go_sem]⟩
theorem grown_of {w w' : World} (h : Below w.heap.size w w') (r : Option Nat) : w.grownBy w' r := ⟨h.os, h.tape, h.output, h.size, fun k hk _ => h.block k hk⟩

set_option maxHeartbeats 1000000 in
theorem szByteS_any (a : Option Addr) (n c : Nat) (w : World) (h9 : n ≤ 9223372036854775807) :
    Calls Try.prog 32 #[.slice a n c, .int .i64 1048576] w fun e w' => e = .returned (.int .i64 (szT n)) ∧ Below w.heap.size w w' := by
  by_cases ht : (n : Int) ≤ 1048576
  · rw [szT_yes ht]
    have d1 : decide (1048576 - (n : Int) < 0) = false := decide_eq_false (by omega)
    have d2 : ¬ (1048576 - (n : Int) < 0) := by omega
    go_enter Try.func32, Try.ntmps32
    go_wp2
    go_ret
    exact ⟨rfl, Below.refl _ _⟩
  · rw [szT_no ht]
    have d1 : decide (1048576 - (n : Int) < 0) = true := decide_eq_true (by omega)
    go_enter Try.func32, Try.ntmps32
    go_wp2
    go_ret
    exact ⟨rfl, Below.refl _ _⟩

set_option maxHeartbeats 1000000 in
theorem szFile_any (a : Option Addr) (n c : Nat) (N : Int) (w : World) (h9 : n ≤ 9223372036854775807) :
    Calls Try.prog 15 #[.agg #[.slice a n c, .int .i64 N], .int .i64 1048576] w fun e w' => e = .returned (.int .i64 (szT n)) ∧ Below w.heap.size w w' := by
  have HS := hidP (fun W => szByteS_any a n c W h9)
  by_cases ht : (n : Int) ≤ 1048576
  · rw [szT_yes ht] at HS ⊢
    have d1 : decide (1048576 - (n : Int) < 0) = false := decide_eq_false (by omega)
    have d2 : ¬ (1048576 - (n : Int) < 0) := by omega
    generalize (1048576 - (n : Int)) = z at *
    go_enter Try.func15, Try.ntmps15
    go_wp2_with fail
    refine (HS.out _).mono ?_
    rintro e w2 ⟨rfl, hb2⟩
    have HB2 := hidP hb2
    clear hb2
    go_wp2_with fail
    go_ret
    exact ⟨rfl, (alloc_below w _).trans (HB2.out.mono (alloc_below w _).size)⟩
  · rw [szT_no ht] at HS ⊢
    have d1 : decide (1048576 - (n : Int) < 0) = true := decide_eq_true (by omega)
    go_enter Try.func15, Try.ntmps15
    go_wp2_with fail
    refine (HS.out _).mono ?_
    rintro e w2 ⟨rfl, hb2⟩
    have HB2 := hidP hb2
    clear hb2
    go_wp2_with fail
    go_ret
    exact ⟨rfl, (alloc_below w _).trans (HB2.out.mono (alloc_below w _).size)⟩

set_option maxHeartbeats 1000000 in
theorem toFile_any (a : Option Addr) (n c : Nat) (N : Int) (ls : List Int) (w : World) (hn : n = ls.length) (hP : RowG KBy w a ls) (hl : n ≤ 1048576) :
    Calls Try.prog 16 #[.agg #[.slice a n c, .int .i64 N]] w fun e w' => ∃ g, e = .returned (.agg #[.slice (some ⟨g, 0, none⟩) n n, .int .i64 N]) ∧ OwnG KBy 5 w' w.heap.size (.slice (some ⟨g, 0, none⟩) n n) ls ∧ Below w.heap.size w w' := by
  have HTP := hidP (fun W h => toByteG a n c ls W hn (hP.later h) hl)
  clear hP hn
  go_enter Try.func16, Try.ntmps16
  go_wp2_with fail
  refine (HTP.out _ ?_).mono ?_
  · repeat (first | with_reducible exact Below.refl _ _ | (with_reducible refine Below.drew ?_) | (with_reducible refine Below.alloc ?_ ?_ _; rotate_left; (focus (first | omega | (simp; omega) | (simp; done)))) | (with_reducible refine Below.setCell ?_ ?_ _; rotate_left; (focus (first | omega | (simp; omega) | (simp; done)))))
  rintro e w1 ⟨g, rfl, og, hb1⟩
  have hz1 := hb1.size
  try simp at hz1
  have hgl := OwnG.lt og g rfl
  try simp at hgl
  have f10 : w.heap.size < w1.heap.size := by omega
  have f11 : w.heap.size + 1 < w1.heap.size := by omega
  have f12 : w.heap.size + 2 < w1.heap.size := by omega
  refine olds_k (w.heap.size + 3) hb1 ?_ ?_
  · first | omega | (simp; omega) | (simp; done)
  intro hc1 hf1
  have OG := hidP og
  clear og
  go_wp2_with fail
  refine bodyPost_ret (v := .agg #[.slice (some ⟨g, 0, none⟩) n n, .int .i64 N]) (by simp [results, Try.results16, go_sem, hc1]) rfl ⟨g, rfl, ?_, ?_⟩
  · have ne : ∀ x : Nat, x < w.heap.size + 3 → ∀ k, (Value.slice (some ⟨g, 0, none⟩) n n).ownBlock = some k → some x ≠ some k := fun x hx k hk e => by simp [Value.ownBlock] at hk e; omega
    refine OwnG.mono (B := w.heap.size + 3) ?_ (by omega)
    iterate 4 (with_reducible refine OwnG.grown ?_ (grown_cellG _ _ _ _) ?_; rotate_left; (focus (exact ne _ (by omega))))
    with_reducible exact OG.out.mono (by first | (simp; done) | (simp; omega))
  · repeat (first | with_reducible exact Below.refl _ _ | (with_reducible refine Below.drew ?_) | (with_reducible refine Below.alloc ?_ ?_ _; rotate_left; (focus (first | omega | (simp; omega) | (simp; done)))) | (with_reducible refine Below.setCell ?_ ?_ _; rotate_left; (focus (first | omega | (simp; omega) | (simp; done)))) | (with_reducible refine Below.trans ?_ (hb1.mono ?_); rotate_left; (focus (first | omega | (simp; omega) | (simp; done)))))

set_option maxHeartbeats 1000000 in
theorem eqFile_same (a a' : Option Addr) (n c c' : Nat) (N : Int) (ls : List Int) (w : World) (hn : n = ls.length) (hP : RowG KBy w a ls) (hP' : RowG KBy w a' ls) (hl : n ≤ 9000000000) :
    Calls Try.prog 17 #[.agg #[.slice a n c, .int .i64 N], .agg #[.slice a' n c', .int .i64 N]] w fun e w' => e = .returned (.bool true) ∧ Below w.heap.size w w' := by
  have HTP := hidP (fun W h => eqByteG a a' n c c' ls W hn (hP.later h) (hP'.later h) hl)
  clear hP hP' hn
  go_enter Try.func17, Try.ntmps17
  go_wp2_with fail
  refine (HTP.out _ ?_).mono ?_
  · repeat (first | with_reducible exact Below.refl _ _ | (with_reducible refine Below.drew ?_) | (with_reducible refine Below.alloc ?_ ?_ _; rotate_left; (focus (first | omega | (simp; omega) | (simp; done)))) | (with_reducible refine Below.setCell ?_ ?_ _; rotate_left; (focus (first | omega | (simp; omega) | (simp; done)))))
  rintro e w1 ⟨rfl, hb1⟩
  have hz1 := hb1.size
  try simp at hz1
  have f10 : w.heap.size < w1.heap.size := by omega
  have f11 : w.heap.size + 1 < w1.heap.size := by omega
  refine olds_k (w.heap.size + 2) hb1 ?_ ?_
  · first | omega | (simp; omega) | (simp; done)
  intro hc1 hf1
  go_wp2_with fail
  go_ret
  refine ⟨rfl, ?_⟩
  repeat (first | with_reducible exact Below.refl _ _ | (with_reducible refine Below.drew ?_) | (with_reducible refine Below.alloc ?_ ?_ _; rotate_left; (focus (first | omega | (simp; omega) | (simp; done)))) | (with_reducible refine Below.setCell ?_ ?_ _; rotate_left; (focus (first | omega | (simp; omega) | (simp; done)))) | (with_reducible refine Below.trans ?_ (hb1.mono ?_); rotate_left; (focus (first | omega | (simp; omega) | (simp; done)))))

set_option maxHeartbeats 1000000 in
theorem markFile_any (a : Option Addr) (n c B : Nat) (N : Int) (ls : List Int) (k : Int) (w : World) (hn : n = ls.length) (h : OwnG KBy 5 w B (.slice a n c) ls) (hl : n ≤ 9000000) (k0 : 0 < k) (k1 : k ≤ 9000000000) :
    Calls Try.prog 21 #[.agg #[.slice a n c, .int .i64 N], .int .i64 k] w fun e w' => e = .returned (.int .i64 (k + n)) ∧ OwnG KBy 5 w' B (.slice a n c) (mksG (mkBy k) n) ∧ w.grownBy w' (Value.slice a n c).ownBlock := by
  have HM := hidP (fun W (h' : Below w.heap.size w W) => markByteG a n c B ls k W hn (h.later h') hl k0 k1)
  clear hn h
  go_enter Try.func21, Try.ntmps21
  go_wp2_with fail
  refine (HM.out _ (alloc_below w _)).mono ?_
  rintro e w2 ⟨rfl, ho, hg⟩
  have HO := hidP (And.intro ho hg)
  clear ho hg
  go_wp2_with fail
  go_ret
  exact ⟨rfl, HO.out.1, (grown_of (alloc_below w _) _).trans HO.out.2⟩

set_option maxHeartbeats 1000000 in
theorem heldFile_any (a : Option Addr) (n c : Nat) (N : Int) (k : Int) (w : World) (h : RowG KBy w a (mksG (mkBy k) n)) (hl : n ≤ 9000000) (k0 : 0 < k) (k1 : k ≤ 9000000000) :
    Calls Try.prog 23 #[.agg #[.slice a n c, .int .i64 N], .int .i64 k] w fun e w' => e = .returned (.int .i64 (k + n)) ∧ Below w.heap.size w w' := by
  have HM := hidP (fun W (h' : Below w.heap.size w W) => heldByteG a c n k W (h.later h') hl k0 k1)
  have d1 : decide (k + (n : Int) < 0) = false := decide_eq_false (by omega)
  clear h
  go_enter Try.func23, Try.ntmps23
  go_wp2_with fail
  refine (HM.out _ (alloc_below w _)).mono ?_
  rintro e w2 ⟨rfl, hb2⟩
  have HB2 := hidP hb2
  clear hb2
  go_wp2_with fail
  go_ret
  exact ⟨rfl, (alloc_below w _).trans (HB2.out.mono (alloc_below w _).size)⟩

end Go.Proofs.Ytfhlplpiojhhmaa
