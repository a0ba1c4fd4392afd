/-
  The laws' copies of books, looks at them, and their sizes.
-/
import Derived.Test.YtafbekjpmjjlpaaGreatDoorKBook
namespace Go.Proofs.YtafbekjpmjjlpaaGreatDoor
open Go.ChangeShapes Go.WideShapes Go.ChangeAt Go.RowKit Go.Joins Go.Deep

theorem alloc_below (w : World) (o : Obj) : Below w.heap.size w (w.alloc o) := (Below.refl _ _).alloc (Nat.le_refl _) o
theorem alloc_lt (w : World) (o : Obj) : w.heap.size < (w.alloc o).heap.size := by simp
theorem ret_i {a b : Int} (h : a = b) : Ending.returned (.int .i64 a) = .returned (.int .i64 b) := by rw [h]
/-- How many bytes the owners have. -/
def sumL : List Ls → Nat
  | [] => 0
  | q :: t => q.t.size + sumL t
theorem sumL_app : ∀ xs ys : List Ls, sumL (xs ++ ys) = sumL xs + sumL ys
  | [], ys => by simp [sumL]
  | q :: t, ys => by simp [sumL, sumL_app t ys]; omega
theorem sumL_next {bs : List Ls} {k : Nat} {q : Ls} (h : bs[k]? = some q) : sumL (bs.take (k + 1)) = sumL (bs.take k) + q.t.size := by
  rw [List.take_add_one, h, sumL_app]; simp [sumL]
theorem sumL_le (bs : List Ls) (k : Nat) : sumL (bs.take k) ≤ sumL bs := by
  conv => rhs; rw [← List.take_append_drop k bs, sumL_app]
  omega

def szO (l : Int) (n : Nat) : Int := if l - (n : Int) < 0 then -1 else l - (n : Int)
def szB (n s : Nat) (l : Int) : Int := if (n : Int) + (s : Int) ≤ l then l - n - s else -1
def szT (t : Int) : Int := if t ≤ 1048576 then 1048576 - t else -1
theorem szO_yes {l : Int} {n : Nat} (h : l - (n : Int) < 0) : szO l n = -1 := by unfold szO; rw [if_pos h]
theorem szO_no {l : Int} {n : Nat} (h : ¬ l - (n : Int) < 0) : szO l n = l - (n : Int) := by unfold szO; rw [if_neg h]
theorem szB_yes {n s : Nat} {l : Int} (h : (n : Int) + (s : Int) ≤ l) : szB n s l = l - n - s := by unfold szB; rw [if_pos h]
theorem szB_no {n s : Nat} {l : Int} (h : ¬ (n : Int) + (s : Int) ≤ l) : szB n s l = -1 := by unfold szB; rw [if_neg h]
theorem szT_yes {t : Int} (h : t ≤ 1048576) : szT t = 1048576 - t := by unfold szT; rw [if_pos h]
theorem szT_no {t : Int} (h : ¬ t ≤ 1048576) : szT t = -1 := by unfold szT; rw [if_neg h]

set_option maxHeartbeats 400000 in
theorem szLease_any (q : Ls) (l : Int) (h0 : 0 ≤ l) (h1 : l ≤ 1048576) (h9 : q.t.size ≤ 9223372036854775807) (w : World) :
    Calls Tryz.prog 28 #[.agg #[.bool q.a.s, .int .i64 q.a.H.toInt, .int .i64 q.a.L.toInt, .string q.t, .int .i64 q.k, .int .i64 q.u], .int .i64 l] w fun e w' => e = .returned (.int .i64 (szO l q.t.size)) ∧ Below w.heap.size w w' := by
  by_cases hd : l - (q.t.size : Int) < 0
  · rw [szO_yes hd]
    go_enter Tryz.func28, Tryz.ntmps28
    go_wp2
    go_ret
    exact ⟨rfl, (Below.refl _ _).alloc (Nat.le_refl _) _⟩
  · rw [szO_no hd]
    have hd2 : decide (l - (q.t.size : Int) < 0) = false := decide_eq_false hd
    go_enter Tryz.func28, Tryz.ntmps28
    go_wp2
    go_ret
    exact ⟨rfl, (Below.refl _ _).alloc (Nat.le_refl _) _⟩

set_option maxHeartbeats 1000000 in
theorem szLeaseS_any (a : Option Addr) (n cap : Nat) (bs : List Ls) (l : Int) (h0 : 0 ≤ l) (h1 : l ≤ 1048576) (w : World) (hn : n = bs.length) (hB : RowG KLs w a bs) (h9 : n ≤ 9223372036854775807) (hst : ∀ q ∈ bs, q.t.size ≤ 9223372036854775807) :
    Calls Tryz.prog 12 #[.slice a n cap, .int .i64 l] w fun e w' => e = .returned (.int .i64 (szB n (sumL bs) l)) ∧ Below w.heap.size w w' := by
  have HB := hidP hB
  have HN := hidP hn
  have HST := hidP hst
  clear hB hn hst
  by_cases hnl : l < (n : Int)
  · rw [szB_no (by omega)]
    have d1 : decide (l - (n : Int) < 0) = true := decide_eq_true (by omega)
    go_enter Tryz.func12, Tryz.ntmps12
    go_wp2
    go_ret
    exact ⟨rfl, Below.refl _ _⟩
  · have d1 : decide (l - (n : Int) < 0) = false := decide_eq_false (by omega)
    have d2 : ¬ (l - (n : Int) < 0) := by omega
    go_enter Tryz.func12, Tryz.ntmps12
    go_wp2_with fail
    go_loopw [1, 5] (fun t1 t5 wr => ∃ (k : Nat) (z : Int), k ≤ n ∧ t5 = .int .i64 k ∧ t1 = .int .i64 z ∧ z = l - n - sumL (bs.take k) ∧ 0 ≤ z ∧ Below w.heap.size w wr) (fun _ t5 _ => n - (intOf t5).toNat)
    case atStart => exact ⟨0, l - n, Nat.zero_le _, rfl, rfl, by simp [sumL], by omega, Below.refl _ _⟩
    case round =>
      obtain ⟨k, z, hk, rfl, rfl, hz, hz0, hbel⟩ := hrel
      by_cases hlt : k < n
      · obtain ⟨p, o, q, rfl, hp, hq, c0, c1, c2, c3, c4, c5⟩ := rowLs HB.out k (by rw [← HN.out]; exact hlt)
        have d0 := (hbel.cell hp).trans c0
        have d1 := (hbel.cell hp).trans c1
        have d2 := (hbel.cell hp).trans c2
        have d3 := (hbel.cell hp).trans c3
        have d4 := (hbel.cell hp).trans c4
        have d5 := (hbel.cell hp).trans c5
        have HBel := hidP hbel
        have HNx := hidP (sumL_next hq)
        have HLe := hidP (sumL_le bs (k + 1))
        have hz1 : z ≤ 1048576 := by omega
        have HZ := hidP hz
        have HS := hidP (szLease_any q z hz0 hz1 (HST.out q (List.mem_of_getElem? hq)))
        clear c0 c1 c2 c3 c4 c5 hq hbel hz
        by_cases hd : z - (q.t.size : Int) < 0
        · rw [szO_yes hd] at HS
          have HF : Hid (¬ ((n : Int) + (sumL bs : Int) ≤ l)) := hidP (by have := HZ.out; have := HNx.out; have := HLe.out; omega)
          go_wp2_with fail
          refine (HS.out _).mono ?_
          rintro e w2 ⟨rfl, hb2⟩
          have HB2 := hidP (HBel.out.trans (hb2.mono HBel.out.size))
          clear hb2 HBel d0 d1 d2 d3 d4 d5
          go_wp2_with fail
          go_ret
          exact ⟨ret_i (szB_no (by have := HF.out; omega)).symm, HB2.out⟩
        · rw [szO_no hd] at HS
          have hd2 : decide (z - (q.t.size : Int) < 0) = false := decide_eq_false hd
          go_wp2_with fail
          refine (HS.out _).mono ?_
          rintro e w2 ⟨rfl, hb2⟩
          have HB2 := hidP (HBel.out.trans (hb2.mono HBel.out.size))
          clear hb2 HBel d0 d1 d2 d3 d4 d5
          go_wp2_with fail
          go_roundw
          case rel => exact ⟨k + 1, z - (q.t.size : Int), by omega, by go_num, rfl, by have := HZ.out; have := HNx.out; omega, by omega, HB2.out⟩
          case measure => simp [intOf]; omega
      · have hkn : k = n := by omega
        have HF : Hid ((n : Int) + (sumL bs : Int) ≤ l ∧ z = l - n - sumL bs) := by
          rw [List.take_of_length_le (by have := HN.out; omega)] at hz
          exact hidP ⟨by omega, hz⟩
        have HBel := hidP hbel
        clear hbel hz
        go_wp2_with fail
        go_ret
        exact ⟨ret_i (by rw [szB_yes HF.out.1, ← HF.out.2]), HBel.out⟩


/-- How much of a law's room a book takes. -/
def totB (ls : List Ls) : Int := ls.length + sumL ls
theorem box3B (w : World) (t : TypeId) (u v x : Value) : (w.alloc (.cells #[u, v, x] t)).cell? ⟨w.heap.size, 0, none⟩ = some u ∧ (w.alloc (.cells #[u, v, x] t)).cell? ⟨w.heap.size, 1, none⟩ = some v ∧ (w.alloc (.cells #[u, v, x] t)).cell? ⟨w.heap.size, 2, none⟩ = some x := ⟨by simp [go_sem], by simp [go_sem], by simp [go_sem]⟩

set_option maxHeartbeats 1000000 in
theorem szBook_any (a : Option Addr) (n c : Nat) (T N : Int) (ls : List Ls) (w : World) (hn : n = ls.length) (hP : RowG KLs w a ls) (h9 : n ≤ 9223372036854775807) (hst : ∀ q ∈ ls, q.t.size ≤ 9223372036854775807) :
    Calls Tryz.prog 4 #[.agg #[.slice a n c, .int .i64 T, .int .i64 N], .int .i64 1048576] w fun e w' => e = .returned (.int .i64 (szT (totB ls))) ∧ Below w.heap.size w w' := by
  unfold totB
  rw [← hn]
  have HS := hidP (fun W h => szLeaseS_any a n c ls 1048576 (by omega) (by omega) W hn (hP.later h) h9 hst)
  clear hP hn hst
  by_cases ht : (n : Int) + (sumL ls : Int) ≤ 1048576
  · rw [szB_yes ht] at HS
    rw [szT_yes (by omega)]
    have hz2 : decide (1048576 - (n : Int) - (sumL ls : Int) < 0) = false := decide_eq_false (by omega)
    generalize he : (1048576 - (n : Int) - (sumL ls : Int)) = z at *
    have hz3 : ¬ z < 0 := by omega
    have HE := hidP he
    clear he
    go_enter Tryz.func4, Tryz.ntmps4
    go_wp2_with fail
    refine (HS.out _ (alloc_below w _)).mono ?_
    rintro e w2 ⟨rfl, hb2⟩
    have HB2 := hidP hb2
    clear hb2
    go_wp2_with fail
    go_ret
    exact ⟨ret_i (by have := HE.out; omega), (alloc_below w _).trans (HB2.out.mono (alloc_below w _).size)⟩
  · rw [szB_no ht] at HS
    rw [szT_no (by omega)]
    go_enter Tryz.func4, Tryz.ntmps4
    go_wp2_with fail
    refine (HS.out _ (alloc_below w _)).mono ?_
    rintro e w2 ⟨rfl, hb2⟩
    have HB2 := hidP hb2
    clear hb2
    go_wp2_with fail
    go_ret
    exact ⟨rfl, (alloc_below w _).trans (HB2.out.mono (alloc_below w _).size)⟩

set_option maxHeartbeats 1000000 in
theorem toBook_any (a : Option Addr) (n c : Nat) (T N : Int) (ls : List Ls) (w : World) (hn : n = ls.length) (hP : RowG KLs w a ls) (hl : n ≤ 1048576) :
    Calls Tryz.prog 6 #[.agg #[.slice a n c, .int .i64 T, .int .i64 N]] w fun e w' => ∃ g, e = .returned (.agg #[.slice (some ⟨g, 0, none⟩) n n, .int .i64 T, .int .i64 N]) ∧ OwnG KLs 47 w' w.heap.size (.slice (some ⟨g, 0, none⟩) n n) ls ∧ Below w.heap.size w w' := by
  have HTP := hidP (fun W h => toLeaseS_any a n c ls W hn (hP.later h) hl)
  clear hP hn
  go_enter Tryz.func6, Tryz.ntmps6
  go_wp2_with fail
  refine (HTP.out _ ?_).mono ?_
  · repeat (first | with_reducible exact Below.refl _ _ | (with_reducible refine Below.drew ?_) | (with_reducible refine Below.alloc ?_ ?_ _; rotate_left; (focus (first | omega | (simp; omega) | (simp; done)))) | (with_reducible refine Below.setCell ?_ ?_ _; rotate_left; (focus (first | omega | (simp; omega) | (simp; done)))))
  rintro e w1 ⟨g, rfl, og, hb1⟩
  have hz1 := hb1.size
  try simp at hz1
  have hgl := OwnG.lt og g rfl
  try simp at hgl
  have f10 : w.heap.size < w1.heap.size := by omega
  have f11 : w.heap.size + 1 < w1.heap.size := by omega
  have f12 : w.heap.size + 2 < w1.heap.size := by omega
  refine olds_k (w.heap.size + 3) hb1 ?_ ?_
  · first | omega | (simp; omega) | (simp; done)
  intro hc1 hf1
  have OG := hidP og
  clear og
  go_wp2_with fail
  refine bodyPost_ret (v := .agg #[.slice (some ⟨g, 0, none⟩) n n, .int .i64 T, .int .i64 N]) (by simp [results, Tryz.results6, go_sem, hc1]) rfl ⟨g, rfl, ?_, ?_⟩
  · have ne : ∀ x : Nat, x < w.heap.size + 3 → ∀ k, (Value.slice (some ⟨g, 0, none⟩) n n).ownBlock = some k → some x ≠ some k := fun x hx k hk e => by simp [Value.ownBlock] at hk e; omega
    refine OwnG.mono (B := w.heap.size + 3) ?_ (by omega)
    iterate 6 (with_reducible refine OwnG.grown ?_ (grown_cellG _ _ _ _) ?_; rotate_left; (focus (exact ne _ (by omega))))
    with_reducible exact OG.out.mono (by first | (simp; done) | (simp; omega))
  · repeat (first | with_reducible exact Below.refl _ _ | (with_reducible refine Below.drew ?_) | (with_reducible refine Below.alloc ?_ ?_ _; rotate_left; (focus (first | omega | (simp; omega) | (simp; done)))) | (with_reducible refine Below.setCell ?_ ?_ _; rotate_left; (focus (first | omega | (simp; omega) | (simp; done)))) | (with_reducible refine Below.trans ?_ (hb1.mono ?_); rotate_left; (focus (first | omega | (simp; omega) | (simp; done)))))

set_option maxHeartbeats 1000000 in
theorem eqBook_same (a a' : Option Addr) (n c c' : Nat) (T N : Int) (ls : List Ls) (w : World) (hn : n = ls.length) (hP : RowG KLs w a ls) (hP' : RowG KLs w a' ls) (hl : n ≤ 9000000000) :
    Calls Tryz.prog 9 #[.agg #[.slice a n c, .int .i64 T, .int .i64 N], .agg #[.slice a' n c', .int .i64 T, .int .i64 N]] w fun e w' => e = .returned (.bool true) ∧ Below w.heap.size w w' := by
  have HTP := hidP (fun W h => eqLeaseS_same a a' n c c' ls W hn (hP.later h) (hP'.later h) hl)
  clear hP hP' hn
  go_enter Tryz.func9, Tryz.ntmps9
  go_wp2_with fail
  refine (HTP.out _ ?_).mono ?_
  · repeat (first | with_reducible exact Below.refl _ _ | (with_reducible refine Below.drew ?_) | (with_reducible refine Below.alloc ?_ ?_ _; rotate_left; (focus (first | omega | (simp; omega) | (simp; done)))) | (with_reducible refine Below.setCell ?_ ?_ _; rotate_left; (focus (first | omega | (simp; omega) | (simp; done)))))
  rintro e w1 ⟨rfl, hb1⟩
  have hz1 := hb1.size
  try simp at hz1
  have f10 : w.heap.size < w1.heap.size := by omega
  have f11 : w.heap.size + 1 < w1.heap.size := by omega
  refine olds_k (w.heap.size + 2) hb1 ?_ ?_
  · first | omega | (simp; omega) | (simp; done)
  intro hc1 hf1
  go_wp2_with fail
  go_ret
  refine ⟨rfl, ?_⟩
  repeat (first | with_reducible exact Below.refl _ _ | (with_reducible refine Below.drew ?_) | (with_reducible refine Below.alloc ?_ ?_ _; rotate_left; (focus (first | omega | (simp; omega) | (simp; done)))) | (with_reducible refine Below.setCell ?_ ?_ _; rotate_left; (focus (first | omega | (simp; omega) | (simp; done)))) | (with_reducible refine Below.trans ?_ (hb1.mono ?_); rotate_left; (focus (first | omega | (simp; omega) | (simp; done)))))

end Go.Proofs.YtafbekjpmjjlpaaGreatDoor
