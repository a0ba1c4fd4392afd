/-
  The program's FileSync, and FileCrash of a right file: a beginning that has all that was sure.
-/
import Derived.Test.YtfhlplpiojhhmaaV11IC
import Derived.Test.YtfhlplpiojhhmaaV11IA
import Derived.Test.YtfhlplpiojhhmaaCEq
namespace Go.Proofs.Ytfhlplpiojhhmaa
open Go.RowKit

set_option maxHeartbeats 1000000 in
theorem iSync_any (a : Option Addr) (n c : Nat) (N : Int) (zs : List Int) (w : World) (hn : n = zs.length) (hB : RowG KBy w a zs) (hl : n ≤ 1048576) :
    Calls Try.prog 11 #[.agg #[.slice a n c, .int .i64 N]] w fun e w' => ∃ a' c', e = .returned (.agg #[.slice a' n c', .int .i64 n]) ∧ OwnG KBy 5 w' w.heap.size (.slice a' n c') zs ∧ Below w.heap.size w w' := by
  have HSu := hidP (fun W h => sureFile_any a n c zs W hn (hB.later h) hl)
  clear hB hn
  go_enter Try.func11, Try.ntmps11
  go_wp2_with fail
  obtain ⟨bk0_W1, bk1_W1⟩ := box2D w 25 (.slice a n c) (.int .i64 N)
  have bkF_W1 : ∀ o, (w.alloc (.cells #[.slice a n c, .int .i64 N] 25)).frozen? ⟨w.heap.size, o, none⟩ = false := fun o => by simp [go_sem]
  have bkL_W1 : w.heap.size < (w.alloc (.cells #[.slice a n c, .int .i64 N] 25)).heap.size := by simp
  have ab_W1 := alloc_below w (.cells #[.slice a n c, .int .i64 N] 25)
  have as_W1 : Hid ((w.alloc (.cells #[.slice a n c, .int .i64 N] 25)).heap.size = w.heap.size + 1) := hidP (by simp)
  generalize w.alloc (.cells #[.slice a n c, .int .i64 N] 25) = W1 at *
  have acc_W1 := hidP (ab_W1)
  have sz_W1 : Hid (w.heap.size ≤ W1.heap.size) := hidP ab_W1.size
  clear ab_W1 
  obtain ⟨rs0_W2, rs1_W2⟩ := box2D W1 25 (.slice none 0 0) (.int .i64 0)
  have rsF_W2 : ∀ o, (W1.alloc (.cells #[.slice none 0 0, .int .i64 0] 25)).frozen? ⟨W1.heap.size, o, none⟩ = false := fun o => by simp [go_sem]
  have rsL_W2 : W1.heap.size < (W1.alloc (.cells #[.slice none 0 0, .int .i64 0] 25)).heap.size := by simp
  have ab_W2 := alloc_below W1 (.cells #[.slice none 0 0, .int .i64 0] 25)
  have as_W2 : Hid ((W1.alloc (.cells #[.slice none 0 0, .int .i64 0] 25)).heap.size = W1.heap.size + 1) := hidP (by simp)
  generalize W1.alloc (.cells #[.slice none 0 0, .int .i64 0] 25) = W2 at *
  have bk0_W2 := (ab_W2.cell bkL_W1).trans bk0_W1
  have bk1_W2 := (ab_W2.cell bkL_W1).trans bk1_W1
  have bkF_W2 : ∀ o, W2.frozen? ⟨w.heap.size, o, none⟩ = false := fun o => (ab_W2.frozen bkL_W1).trans (bkF_W1 o)
  have bkL_W2 : w.heap.size < W2.heap.size := Nat.lt_of_lt_of_le bkL_W1 ab_W2.size
  have acc_W2 := hidP (acc_W1.out.trans (ab_W2.mono acc_W1.out.size))
  have sz_W2 : Hid (W1.heap.size ≤ W2.heap.size) := hidP ab_W2.size
  clear ab_W2 bk0_W1 bk1_W1 bkF_W1 bkL_W1 acc_W1
  rw [as_W1.out] at rs0_W2 rs1_W2 rsL_W2
  have rsF_W2' : ∀ o, W2.frozen? ⟨w.heap.size + 1, o, none⟩ = false := fun o => by have := rsF_W2 o; rw [as_W1.out] at this; exact this
  clear rsF_W2
  have rsF_W2 := rsF_W2'
  clear rsF_W2'
  refine (HSu.out _ acc_W2.out).mono ?_
  rintro e w3 ⟨a3, c3, rfl, og3, hb3⟩
  have OG := hidP og3
  clear og3
  have bk0_w3 := (hb3.cell bkL_W2).trans bk0_W2
  have bk1_w3 := (hb3.cell bkL_W2).trans bk1_W2
  have bkF_w3 : ∀ o, w3.frozen? ⟨w.heap.size, o, none⟩ = false := fun o => (hb3.frozen bkL_W2).trans (bkF_W2 o)
  have bkL_w3 : w.heap.size < w3.heap.size := Nat.lt_of_lt_of_le bkL_W2 hb3.size
  have rs0_w3 := (hb3.cell rsL_W2).trans rs0_W2
  have rs1_w3 := (hb3.cell rsL_W2).trans rs1_W2
  have rsF_w3 : ∀ o, w3.frozen? ⟨w.heap.size + 1, o, none⟩ = false := fun o => (hb3.frozen rsL_W2).trans (rsF_W2 o)
  have rsL_w3 : w.heap.size + 1 < w3.heap.size := Nat.lt_of_lt_of_le rsL_W2 hb3.size
  have acc_w3 := hidP (acc_W2.out.trans (hb3.mono acc_W2.out.size))
  have sz_w3 : Hid (W2.heap.size ≤ w3.heap.size) := hidP hb3.size
  clear hb3 bk0_W2 bk1_W2 bkF_W2 bkL_W2 rs0_W2 rs1_W2 rsF_W2 rsL_W2 acc_W2
  have oL_w3 := hidP (OG.out)
  have lhL : Hid (∀ k, (Value.slice a3 n c3).ownBlock = some k → W2.heap.size ≤ k ∧ k < w3.heap.size) := hidP (fun k hk => OwnG.lt oL_w3.out k hk)
  clear OG
  go_wp2_with fail
  refine bodyPost_ret (v := .agg #[.slice a3 n c3, .int .i64 n]) (by simp [results, Try.results11, go_sem, rs0_w3, rs1_w3]) rfl ⟨_, _, rfl, ?_, ?_⟩
  · refine OwnG.mono (B := W2.heap.size) ?_ (by have := as_W1.out; have := sz_W1.out; have := as_W2.out; have := sz_W2.out; have := sz_w3.out; omega)
    iterate 2 (with_reducible refine OwnG.grown ?_ (grown_cellG _ _ _ _) ?_; rotate_left; (focus (exact OwnG.ne_of oL_w3.out (by have := as_W1.out; have := sz_W1.out; have := as_W2.out; have := sz_W2.out; have := sz_w3.out; omega))))
    with_reducible exact oL_w3.out
  · repeat (with_reducible refine Below.setCell ?_ ?_ _; rotate_left; (focus (first | (simp; done) | (simp; omega) | (dsimp only; have := as_W1.out; have := sz_W1.out; have := as_W2.out; have := sz_W2.out; have := sz_w3.out; omega))))
    exact acc_w3.out

theorem crash_of (n : Nat) (N : Int) (zs : List Int) (hn : n = zs.length) (hl : n ≤ 1048576) (K : Int) (hr : okF n N = true) :
    ∃ L : Nat, N ≤ (L : Int) ∧ L ≤ n ∧ ∀ (a : Option Addr) (c : Nat) (W : World), n ≤ c → RowG KBy W a zs → Calls Try.prog 12 #[.agg #[.slice a n c, .int .i64 N], .int .i64 K] W fun e w' => ∃ a' c', e = .returned (.agg #[.slice a' L c', .int .i64 L]) ∧ OwnG KBy 5 w' W.heap.size (.slice a' L c') (zs.take L) ∧ Below W.heap.size W w' := by
  obtain ⟨k0, k1, k2⟩ := okF_yes hr
  by_cases he : N = (n : Int)
  · subst he
    refine ⟨n, Int.le_refl _, Nat.le_refl _, fun a c W hc e1 => ?_⟩
    have ht : zs.take n = zs := by rw [hn]; exact List.take_length
    rw [ht]
    exact iCr_end a n c n zs W hn e1 hl K hr rfl
  · have he' : N < (n : Int) := by omega
    by_cases hk : K < 0
    · exact ⟨N.toNat, by omega, by omega, fun a c W hc e1 => iCr_neg a n c N zs W hn e1 hc hl K hr he' _ hk (by omega)⟩
    · by_cases hq : (n : Int) - N < K
      · exact ⟨n, by omega, Nat.le_refl _, fun a c W hc e1 => iCr_all a n c N zs W hn e1 hc hl K hr he' n hq rfl⟩
      · exact ⟨(N + K).toNat, by omega, by omega, fun a c W hc e1 => iCr_mid a n c N zs W hn e1 hc hl K hr he' _ (by omega) (by omega) (by omega)⟩
theorem byt_three (w : World) (x y z : Int) : RowG KBy (w.alloc (.cells #[.int .u8 x, .int .u8 y, .int .u8 z] 5)) (some ⟨w.heap.size, 0, none⟩) [x, y, z] := row_by.2 fun j hj => by
  match j, hj with
  | 0, _ => exact ⟨_, _, x, rfl, by simp, by simp [go_sem], rfl⟩
  | 1, _ => exact ⟨_, _, y, rfl, by simp, by simp [go_sem], rfl⟩
  | 2, _ => exact ⟨_, _, z, rfl, by simp, by simp [go_sem], rfl⟩
theorem sameG (a b : Option Addr) (n c d : Nat) (zs : List Int) (w : World) (hn : n = zs.length) (hB : RowG KBy w a zs) (hD : RowG KBy w b zs) (hl : n ≤ 1048576) :
    Calls Try.prog 13 #[.slice a n c, .slice b n d] w fun e w' => e = .returned (.bool true) ∧ Below w.heap.size w w' := by
  subst hn
  have := sameBytes_any a b c d zs zs w (row_by.1 hB) (row_by.1 hD) (by omega) (by omega)
  rw [eqL_same] at this
  exact this

end Go.Proofs.Ytfhlplpiojhhmaa
