/-
  The laws' copies of an entry, looks at it and its size.
-/
import Derived.Test.YtamaanbnlnpjcaaVGrpS
import Derived.Test.YtamaanbnlnpjcaaCLift
namespace Go.Proofs.Ytamaanbnlnpjcaa
open Go.ChangeShapes Go.WideShapes Go.ChangeAt Go.RowKit Go.Joins Go.Deep

theorem box3E (w : World) (t : TypeId) (u v x : Value) : (w.alloc (.cells #[u, v, x] t)).cell? ⟨w.heap.size, 0, none⟩ = some u ∧ (w.alloc (.cells #[u, v, x] t)).cell? ⟨w.heap.size, 1, none⟩ = some v ∧ (w.alloc (.cells #[u, v, x] t)).cell? ⟨w.heap.size, 2, none⟩ = some x := ⟨by simp [go_sem], by simp [go_sem], by simp [go_sem]⟩

set_option maxHeartbeats 1000000 in
theorem szByteS_any (a : Option Addr) (n c : Nat) (w : World) (h9 : n ≤ 9223372036854775807) :
    Calls Try.prog 45 #[.slice a n c, .int .i64 1048576] w fun e w' => e = .returned (.int .i64 (szT n)) ∧ Below w.heap.size w w' := by
  by_cases ht : (n : Int) ≤ 1048576
  · rw [szT_yes ht]
    have d1 : decide (1048576 - (n : Int) < 0) = false := decide_eq_false (by omega)
    have d2 : ¬ (1048576 - (n : Int) < 0) := by omega
    go_enter Try.func45, Try.ntmps45
    go_wp2
    go_ret
    exact ⟨rfl, Below.refl _ _⟩
  · rw [szT_no ht]
    have d1 : decide (1048576 - (n : Int) < 0) = true := decide_eq_true (by omega)
    go_enter Try.func45, Try.ntmps45
    go_wp2
    go_ret
    exact ⟨rfl, Below.refl _ _⟩

set_option maxHeartbeats 1000000 in
theorem szEntry_any (a : Option Addr) (n c : Nat) (T N : Int) (w : World) (h9 : n ≤ 9223372036854775807) :
    Calls Try.prog 82 #[.agg #[.int .i64 T, .int .i64 N, .slice a n c], .int .i64 1048576] w fun e w' => e = .returned (.int .i64 (szT n)) ∧ Below w.heap.size w w' := by
  have HS := hidP (fun W => szByteS_any a n c W h9)
  by_cases ht : (n : Int) ≤ 1048576
  · rw [szT_yes ht] at HS ⊢
    have d1 : decide (1048576 - (n : Int) < 0) = false := decide_eq_false (by omega)
    have d2 : ¬ (1048576 - (n : Int) < 0) := by omega
    generalize (1048576 - (n : Int)) = z at *
    go_enter Try.func82, Try.ntmps82
    go_wp2_with fail
    refine (HS.out _).mono ?_
    rintro e w2 ⟨rfl, hb2⟩
    have HB2 := hidP hb2
    clear hb2
    go_wp2_with fail
    go_ret
    exact ⟨rfl, (alloc_below w _).trans (HB2.out.mono (alloc_below w _).size)⟩
  · rw [szT_no ht] at HS ⊢
    have d1 : decide (1048576 - (n : Int) < 0) = true := decide_eq_true (by omega)
    go_enter Try.func82, Try.ntmps82
    go_wp2_with fail
    refine (HS.out _).mono ?_
    rintro e w2 ⟨rfl, hb2⟩
    have HB2 := hidP hb2
    clear hb2
    go_wp2_with fail
    go_ret
    exact ⟨rfl, (alloc_below w _).trans (HB2.out.mono (alloc_below w _).size)⟩

set_option maxHeartbeats 1000000 in
theorem toEntry_any (a : Option Addr) (n c : Nat) (T N : Int) (ls : List Int) (w : World) (hn : n = ls.length) (hP : RowG KBy w a ls) (hl : n ≤ 1048576) :
    Calls Try.prog 86 #[.agg #[.int .i64 T, .int .i64 N, .slice a n c]] w fun e w' => ∃ g, e = .returned (.agg #[.int .i64 T, .int .i64 N, .slice (some ⟨g, 0, none⟩) n n]) ∧ OwnG KBy 5 w' w.heap.size (.slice (some ⟨g, 0, none⟩) n n) ls ∧ Below w.heap.size w w' := by
  have HTP := hidP (fun W h => toByteG a n c ls W hn (hP.later h) hl)
  clear hP hn
  go_enter Try.func86, Try.ntmps86
  go_wp2_with fail
  refine (HTP.out _ ?_).mono ?_
  · repeat (first | with_reducible exact Below.refl _ _ | (with_reducible refine Below.drew ?_) | (with_reducible refine Below.alloc ?_ ?_ _; rotate_left; (focus (first | omega | (simp; omega) | (simp; done)))) | (with_reducible refine Below.setCell ?_ ?_ _; rotate_left; (focus (first | omega | (simp; omega) | (simp; done)))))
  rintro e w1 ⟨g, rfl, og, hb1⟩
  have hz1 := hb1.size
  try simp at hz1
  have hgl := OwnG.lt og g rfl
  try simp at hgl
  have f10 : w.heap.size < w1.heap.size := by omega
  have f11 : w.heap.size + 1 < w1.heap.size := by omega
  have f12 : w.heap.size + 2 < w1.heap.size := by omega
  refine olds_k (w.heap.size + 3) hb1 ?_ ?_
  · first | omega | (simp; omega) | (simp; done)
  intro hc1 hf1
  have OG := hidP og
  clear og
  go_wp2_with fail
  refine bodyPost_ret (v := .agg #[.int .i64 T, .int .i64 N, .slice (some ⟨g, 0, none⟩) n n]) (by simp [results, Try.results86, go_sem, hc1]) rfl ⟨g, rfl, ?_, ?_⟩
  · have ne : ∀ x : Nat, x < w.heap.size + 3 → ∀ k, (Value.slice (some ⟨g, 0, none⟩) n n).ownBlock = some k → some x ≠ some k := fun x hx k hk e => by simp [Value.ownBlock] at hk e; omega
    refine OwnG.mono (B := w.heap.size + 3) ?_ (by omega)
    repeat (with_reducible refine OwnG.grown ?_ (grown_cellG _ _ _ _) ?_; rotate_left; (focus (exact ne _ (by omega))))
    with_reducible exact OG.out.mono (by first | (simp; done) | (simp; omega))
  · repeat (first | with_reducible exact Below.refl _ _ | (with_reducible refine Below.drew ?_) | (with_reducible refine Below.alloc ?_ ?_ _; rotate_left; (focus (first | omega | (simp; omega) | (simp; done)))) | (with_reducible refine Below.setCell ?_ ?_ _; rotate_left; (focus (first | omega | (simp; omega) | (simp; done)))) | (with_reducible refine Below.trans ?_ (hb1.mono ?_); rotate_left; (focus (first | omega | (simp; omega) | (simp; done)))))

set_option maxHeartbeats 1000000 in
theorem eqEntry_same (a a' : Option Addr) (n c c' : Nat) (T N : Int) (ls : List Int) (w : World) (hn : n = ls.length) (hP : RowG KBy w a ls) (hP' : RowG KBy w a' ls) (hl : n ≤ 9000000000) :
    Calls Try.prog 87 #[.agg #[.int .i64 T, .int .i64 N, .slice a n c], .agg #[.int .i64 T, .int .i64 N, .slice a' n c']] w fun e w' => e = .returned (.bool true) ∧ Below w.heap.size w w' := by
  have HTP := hidP (fun W h => eqByteG a a' n c c' ls W hn (hP.later h) (hP'.later h) hl)
  clear hP hP' hn
  go_enter Try.func87, Try.ntmps87
  go_wp2_with fail
  refine (HTP.out _ ?_).mono ?_
  · repeat (first | with_reducible exact Below.refl _ _ | (with_reducible refine Below.drew ?_) | (with_reducible refine Below.alloc ?_ ?_ _; rotate_left; (focus (first | omega | (simp; omega) | (simp; done)))) | (with_reducible refine Below.setCell ?_ ?_ _; rotate_left; (focus (first | omega | (simp; omega) | (simp; done)))))
  rintro e w1 ⟨rfl, hb1⟩
  have hz1 := hb1.size
  try simp at hz1
  have f10 : w.heap.size < w1.heap.size := by omega
  have f11 : w.heap.size + 1 < w1.heap.size := by omega
  refine olds_k (w.heap.size + 2) hb1 ?_ ?_
  · first | omega | (simp; omega) | (simp; done)
  intro hc1 hf1
  go_wp2_with fail
  go_ret
  refine ⟨rfl, ?_⟩
  repeat (first | with_reducible exact Below.refl _ _ | (with_reducible refine Below.drew ?_) | (with_reducible refine Below.alloc ?_ ?_ _; rotate_left; (focus (first | omega | (simp; omega) | (simp; done)))) | (with_reducible refine Below.setCell ?_ ?_ _; rotate_left; (focus (first | omega | (simp; omega) | (simp; done)))) | (with_reducible refine Below.trans ?_ (hb1.mono ?_); rotate_left; (focus (first | omega | (simp; omega) | (simp; done)))))

theorem byt_open9 {H : Type} {enc : TypeId × Value → H} {W : World} {a : Option Addr} {len cap : Nat} {d : DataW H} {p : List MemPlace}
    (h : DataW.Trod enc Try.prog W 0 (fun _ => true) true 22 (.slice a len cap) d p) : ∃ zs : List Int, len = zs.length ∧ Oct zs ∧ RowG KBy W a zs ∧ len ≤ 9223372036854775807 := by
  have h2 := h
  obtain ⟨zs, hl, ho, hb⟩ := byt_open h
  refine ⟨zs, hl.symm, ho, row_by.2 hb, ?_⟩
  obtain ⟨fuel, hf⟩ := h2
  rcases open_slice Try.underlying22 hf with ⟨hcs, _⟩ | ⟨a', len', cap', m, n, D, Plc, hcs, _, hl', hmx, _, _, _⟩
  · simp [Value.cells] at hcs; omega
  · simp [Value.cells] at hcs
    obtain ⟨rfl, rfl, rfl⟩ := hcs
    unfold maxLen at hmx; omega
theorem Try.cellsEntry : Try.prog.cellsOf 105 = 3 := by kernel_rfl
set_option maxRecDepth 100000 in
/-- An entry that came in. -/
theorem openEntry {H : Type} {enc : TypeId × Value → H} {W : World} {r : Reach} {b0 : Nat} {v : Value} {d : DataW H} {p : List MemPlace} (hv : Value.okWide Try.prog W r b0 105 v)
    (h : DataW.Trod enc Try.prog W 0 (fun _ => true) true 105 v d p) : ∃ (a : Option Addr) (n c : Nat) (T N : Int) (zs : List Int), v = .agg #[.int .i64 T, .int .i64 N, .slice a n c] ∧ n = zs.length ∧ Oct zs ∧ RowG KBy W a zs ∧ n ≤ 9223372036854775807 ∧ (Lit.int .i64 T).wf = true ∧ (Lit.int .i64 N).wf = true := by
  obtain ⟨v0, v1, v2, y0, y1, y2, n, rfl, rfl, rfl, t0, t1, t2⟩ := open_agg3 Try.underlying105 (by kernel_rfl) Try.cellsEntry hv h
  obtain ⟨a, n', c, rfl⟩ := slice_of Try.underlying22 t2
  obtain ⟨zs, e1, o1, r1, l1⟩ := byt_open9 (enc := enc) (W := W) (a := a) (len := n') (cap := c) (d := y2.1) (p := y2.2) ⟨n, by simpa [Value.cells] using t2⟩
  obtain ⟨T, eT, _, wT⟩ := DataW.trod_int Try.underlying3 t0
  obtain ⟨N, eN, _, wN⟩ := DataW.trod_int Try.underlying3 t1
  simp at eN eT
  subst eN eT
  exact ⟨a, n', c, T, N, zs, rfl, e1, o1, r1, l1, wT, wN⟩

end Go.Proofs.Ytamaanbnlnpjcaa
