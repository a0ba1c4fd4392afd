/-
  The specification's l2Width, l1In and l2High, each by its plain twin; nothing old in memory turns.
-/
import Derived.Test.YtgohffeneibhdaaBAddr
import Derived.Deep.RegionWith
import Derived.Deep.DeepCutAuto
import Derived.Deep.RegionHeld3
import Derived.Test.YtgohffeneibhdaaBSpan
import Derived.Test.YtgohffeneibhdaaBSpQ
namespace Go.Proofs.Ytgohffeneibhdaa
open Go.RowKit

set_option maxHeartbeats 1000000 in
theorem l2Width_any (s : Bool) (h l : Int) (w : World) :
    Calls Try.prog 50 #[.agg #[.bool s, .int .i64 h, .int .i64 l]] w fun e w' => e = .returned (.int .i64 (wd s)) ∧ Below w.heap.size w w' := by
  cases s <;>
  · go_enter Try.func50, Try.ntmps50
    go_wp2
    go_ret
    exact ⟨rfl, (Below.refl _ _).alloc (Nat.le_refl _) _⟩

theorem inB (x a b : Int) : (decide (a ≤ x) && decide (x ≤ b)) = decide (a ≤ x ∧ x ≤ b) := by
  by_cases h : a ≤ x <;> by_cases h1 : x ≤ b <;> simp [h, h1]

set_option maxHeartbeats 1000000 in
theorem l1In_any (x a b : Int) (w : World) :
    Calls Try.prog 49 #[.int .i64 x, .int .i64 a, .int .i64 b] w fun e w' => e = .returned (.bool (decide (a ≤ x ∧ x ≤ b))) ∧ w' = w := by
  rw [← inB]
  by_cases h : a ≤ x
  · rw [decide_eq_true h]
    go_enter Try.func49, Try.ntmps49
    go_wp2
    all_goals go_ret
    all_goals exact ⟨by simp_all, rfl⟩
  · rw [decide_eq_false h]
    go_enter Try.func49, Try.ntmps49
    go_wp2
    all_goals go_ret
    all_goals exact ⟨by simp_all, rfl⟩

theorem shr32' (r : BitVec 64) : (r.toNat : Int) / (4294967296 : Int) = ((r >>> 32).toNat : Int) := by
  rw [← shr32, Int.fdiv_eq_ediv_of_nonneg _ (by decide)]
  rfl

theorem hgA (b : Int) (h : b ≤ 0) : hg b = 0 := by simp [hg, h]
theorem hgB (b : Int) (h : ¬ b ≤ 0) (h1 : 64 ≤ b) : hg b = BitVec.allOnes 64 := by simp [hg, h, h1]

set_option maxHeartbeats 1000000 in
theorem l2High_any (b : Int) (h0 : -64 ≤ b) (h1 : b ≤ 128) (w : World) :
    Calls Try.prog 76 #[.int .i64 b] w fun e w' => e = .returned (.int .u64 (hg b).toNat) ∧ w' = w := by
  by_cases c : b ≤ 0
  · rw [hgA b c]
    go_enter Try.func76, Try.ntmps76
    go_wp2
    go_ret
    exact ⟨rfl, rfl⟩
  · by_cases d : 64 ≤ b
    · rw [hgB b c d]
      go_enter Try.func76, Try.ntmps76
      go_wp2
      go_ret
      exact ⟨rfl, rfl⟩
    · have e := hg_sh b (by omega) (by omega)
      rw [Nat.min_eq_left (by omega)] at e
      have u : IntKind.u64.wrap (64 - b) = 64 - b := by rw [IntKind.wrap_u64]; omega
      go_enter Try.func76, Try.ntmps76
      go_wp2
      go_ret
      exact ⟨rfl, rfl⟩

end Go.Proofs.Ytgohffeneibhdaa

namespace Go.Proofs.Ytgohffeneibhdaa
open Go.RowKit

set_option maxHeartbeats 1000000 in
theorem l2Mask_six (H L : BitVec 64) (n : Nat) (b : Int) (hn : n ≤ 128) (hb : b = 128 - (n : Int)) (w : World) :
    Calls Try.prog 51 #[.agg #[.bool true, .int .i64 H.toInt, .int .i64 L.toInt], .int .i64 b] w fun e w' => e = .returned (.agg #[.bool true, .int .i64 (cH n H).toInt, .int .i64 (cL n L).toInt]) ∧ Below w.heap.size w w' := by
  have a1 := l2High_any b (by omega) (by omega)
  have a2 := l2High_any (b - 64) (by omega) (by omega)
  rw [show hg b = ~~~ mh n by rw [hb]; exact hg_hi n hn] at a1
  rw [show hg (b - 64) = ~~~ ml n by rw [hb]; exact hg_lo n hn] at a2
  have H1 : Hid (∀ w, _) := a1
  have H2 : Hid (∀ w, _) := a2
  clear a1 a2
  have hb1 : -64 ≤ b - 64 := by omega
  have hb2 : b ≤ 128 := by omega
  have hw1 : wrap64 (b - 64) = b - 64 := by unfold wrap64; omega
  have hw2 : IntKind.i64.wrap (b - 64) = b - 64 := by rw [← w64]; exact hw1
  have k1 : IntKind.i64.wrap (bits .and .u64 (IntKind.u64.wrap H.toInt) ((~~~ mh n).toNat : Int)) = (cH n H).toInt := by rw [wrapU, bAndU, wrapI]; rfl
  have k2 : IntKind.i64.wrap (bits .and .u64 (IntKind.u64.wrap L.toInt) ((~~~ ml n).toNat : Int)) = (cL n L).toInt := by rw [wrapU, bAndU, wrapI]; rfl
  have k3 := k1
  have k4 := k2
  rw [← w64] at k3 k4
  generalize ~~~ mh n = M1 at k1 k3 H1
  generalize ~~~ ml n = M2 at k2 k4 H2
  generalize cH n H = X1 at k1 k3 ⊢
  generalize cL n L = X2 at k2 k4 ⊢
  clear hb hn
  go_enter Try.func51, Try.ntmps51
  go_wp2_with fail
  go_region_held3 (fun x => x.cell? ⟨w.heap.size, 0, none⟩ = some (.bool true) ∧ x.cell? ⟨w.heap.size, 1, none⟩ = some (.int .i64 H.toInt) ∧ x.cell? ⟨w.heap.size, 2, none⟩ = some (.int .i64 L.toInt)) ((go_simp)) (first | (go_at_call_of 76 (Value.int .i64 b); refine (H1.out _).mono ?_; rintro e w1 ⟨rfl, rfl⟩) | (go_at_call 76; refine (H2.out _).mono ?_; rintro e w1 ⟨rfl, rfl⟩))
  all_goals
    go_wp2_with fail
    refine bodyPost_ret (v := .agg #[.bool true, .int .i64 X1.toInt, .int .i64 X2.toInt]) (by simp [results, Try.results51, go_sem]) rfl ⟨rfl, ?_⟩
    repeat (first | with_reducible exact Below.refl _ _ | (with_reducible refine Below.drew ?_) | (with_reducible refine Below.alloc ?_ ?_ _; rotate_left; (focus (first | omega | (simp; omega) | (simp; done)))) | (with_reducible refine Below.setCell ?_ ?_ _; rotate_left; (focus (first | omega | (simp; omega) | (simp; done)))))

set_option maxHeartbeats 1000000 in
theorem l2Mask_four (L : BitVec 64) (n : Nat) (b : Int) (hn : n ≤ 32) (hL : L.toNat < 4294967296) (hb : b = 32 - (n : Int)) (w : World) :
    Calls Try.prog 51 #[.agg #[.bool false, .int .i64 0, .int .i64 L.toInt], .int .i64 b] w fun e w' => e = .returned (.agg #[.bool false, .int .i64 0, .int .i64 (cL n L).toInt]) ∧ Below w.heap.size w w' := by
  have a1 := l2High_any b (by omega) (by omega)
  have H1 : Hid (∀ w, _) := a1
  clear a1
  have k1 : bits .and .i64 L.toInt (IntKind.i64.wrap (((hg b).toNat : Int) / 4294967296)) = (cL n L).toInt := by
    rw [shr32', wrapI, bAnd, hb, msk32 L hL n hn]; rfl
  generalize hg b = M1 at k1 H1
  generalize cL n L = X2 at k1 ⊢
  clear hb hn hL
  go_enter Try.func51, Try.ntmps51
  go_wp2_with fail
  go_region_held3 (fun x => x.cell? ⟨w.heap.size, 0, none⟩ = some (.bool false) ∧ x.cell? ⟨w.heap.size, 1, none⟩ = some (.int .i64 0) ∧ x.cell? ⟨w.heap.size, 2, none⟩ = some (.int .i64 L.toInt)) ((go_simp)) ((go_at_call 76; refine (H1.out _).mono ?_; rintro e w1 ⟨rfl, rfl⟩))
  all_goals
    go_wp2_with fail
    refine bodyPost_ret (v := .agg #[.bool false, .int .i64 0, .int .i64 X2.toInt]) (by simp [results, Try.results51, go_sem]) rfl ⟨rfl, ?_⟩
    repeat (first | with_reducible exact Below.refl _ _ | (with_reducible refine Below.drew ?_) | (with_reducible refine Below.alloc ?_ ?_ _; rotate_left; (focus (first | omega | (simp; omega) | (simp; done)))) | (with_reducible refine Below.setCell ?_ ?_ _; rotate_left; (focus (first | omega | (simp; omega) | (simp; done)))))

end Go.Proofs.Ytgohffeneibhdaa

namespace Go.Proofs.Ytgohffeneibhdaa
open Go.RowKit

/-- whether (s, H, L) and b bits are a right prefix -/
def pokB (s : Bool) (H L : BitVec 64) (b : Int) : Bool := okB s H.toInt L.toInt && (decide (0 ≤ b ∧ b ≤ (wd s : Int)) && hasB s H L ((wd s : Int) - b).toNat s H L)

theorem okB_four (H L : BitVec 64) (h : okB false H.toInt L.toInt = true) : H = 0 ∧ L.toNat < 4294967296 := by
  simp [okB] at h
  have h1 : H = 0 := by
    have := BitVec.ofInt_toInt (x := H)
    rw [h.1] at this
    simpa using this.symm
  refine ⟨h1, ?_⟩
  have e := BitVec.toInt_eq_toNat_cond (x := L)
  have := L.isLt
  split at e <;> omega

theorem l2Mask_any (s : Bool) (H L : BitVec 64) (n : Nat) (b : Int) (hok : okB s H.toInt L.toInt = true) (hn : n ≤ wd s) (hb : b = (wd s : Int) - (n : Int)) (w : World) :
    Calls Try.prog 51 #[.agg #[.bool s, .int .i64 H.toInt, .int .i64 L.toInt], .int .i64 b] w fun e w' => e = .returned (.agg #[.bool s, .int .i64 (cH n H).toInt, .int .i64 (cL n L).toInt]) ∧ Below w.heap.size w w' := by
  cases s
  · obtain ⟨rfl, hL⟩ := okB_four H L hok
    have := l2Mask_four L n b (by simpa [wd] using hn) hL (by simpa [wd] using hb) w
    have z : (cH n (0 : BitVec 64)) = 0 := by simp [cH]
    rw [z]
    simpa using this
  · exact l2Mask_six H L n b (by simpa [wd] using hn) (by simpa [wd] using hb) w

theorem four_of_below {W X : World} {n b : Nat} {v0 v1 v2 v3 : Value} (hB : Below n W X) (hb : b < n)
    (k : W.cell? ⟨b, 0, none⟩ = some v0 ∧ W.cell? ⟨b, 1, none⟩ = some v1 ∧ W.cell? ⟨b, 2, none⟩ = some v2 ∧ W.cell? ⟨b, 3, none⟩ = some v3) :
    X.cell? ⟨b, 0, none⟩ = some v0 ∧ X.cell? ⟨b, 1, none⟩ = some v1 ∧ X.cell? ⟨b, 2, none⟩ = some v2 ∧ X.cell? ⟨b, 3, none⟩ = some v3 := by
  obtain ⟨k0, k1, k2, k3⟩ := k
  exact ⟨(hB.cell hb).trans k0, (hB.cell hb).trans k1, (hB.cell hb).trans k2, (hB.cell hb).trans k3⟩

set_option maxHeartbeats 1000000 in
theorem sPrefixOk_bad (s : Bool) (H L : BitVec 64) (b : Int) (hok : okB s H.toInt L.toInt = false) (w : World) :
    Calls Try.prog 16 #[.agg #[.bool s, .int .i64 H.toInt, .int .i64 L.toInt, .int .i64 b]] w fun e w' => e = .returned (.bool false) ∧ Below w.heap.size w w' := by
  have HK : Hid (∀ w, _) := sAddrOk_any s H.toInt L.toInt
  rw [hok] at HK
  clear hok
  go_enter Try.func16, Try.ntmps16
  go_wp2_with fail
  refine wp_region_held_drew (S := (fun x => x.cell? ⟨w.heap.size, 0, none⟩ = some (.bool s) ∧ x.cell? ⟨w.heap.size, 1, none⟩ = some (.int .i64 H.toInt) ∧ x.cell? ⟨w.heap.size, 2, none⟩ = some (.int .i64 L.toInt) ∧ x.cell? ⟨w.heap.size, 3, none⟩ = some (.int .i64 b))) (by kernel_rfl) ?_ (fun hHeld => ?_)
  · try dsimp only
    (refine four_of_below (W := w.alloc (.cells #[.bool s, .int .i64 H.toInt, .int .i64 L.toInt, .int .i64 b] 31)) (n := w.heap.size + 1) ?_ (by omega) ⟨by simp [go_sem], by simp [go_sem], by simp [go_sem], by simp [go_sem]⟩; repeat (first | with_reducible exact Below.refl _ _ | (with_reducible refine Below.drew ?_) | (with_reducible refine Below.alloc ?_ ?_ _; rotate_left; (focus (first | omega | (simp; omega) | (simp; done)))) | (with_reducible refine Below.setCell ?_ ?_ _; rotate_left; (focus (first | omega | (simp; omega) | (simp; done))))))
  refine wpAnyH_take (i := 0) (v := ?_) rfl (by kernel_rfl) (by kernel_rfl) (by kernel_rfl) (fun _ _ _ h => h) (Or.inl ⟨by rfl, ?_⟩) (by assumption) ?_
  rotate_left
  · intro w hSw
    try dsimp only at hSw
    go_simp
    try with_reducible rfl
  try simp only [go_sem]
  refine wpAnyH_take (i := 1) (v := ?_) rfl (by kernel_rfl) (by kernel_rfl) (by kernel_rfl) (fun _ _ _ h => h) (Or.inl ⟨by rfl, ?_⟩) (by assumption) ?_
  rotate_left
  · intro w hSw
    try dsimp only at hSw
    go_simp
    try with_reducible rfl
  try simp only [go_sem]
  refine wpAnyH_ready (rs := [2]) (by kernel_rfl) (by simp) ?_
  refine AllReadyH.cons rfl (fun K hK => ?_) AllReadyH.nil
  go_simp
  go_wp2_with ((go_at_call 48; refine (HK.out _).mono ?_; rintro e w1 ⟨rfl, hb1⟩; have hz1 := hb1.size; (try simp at hz1); (first | (refine ltk (w.heap.size) (w1.heap.size) ?_ ?_; (focus omega); intro f10) | skip); (refine olds_k (w.heap.size + 1) hb1 ?_ ?_; (focus (first | omega | (simp; omega) | (simp; done))); intro hc1 hf1)))
  refine hK.out _ _ ?_ (fun hHeld => ?_)
  · try dsimp only
    (refine four_of_below (W := w.alloc (.cells #[.bool s, .int .i64 H.toInt, .int .i64 L.toInt, .int .i64 b] 31)) (n := w.heap.size + 1) ?_ (by omega) ⟨by simp [go_sem], by simp [go_sem], by simp [go_sem], by simp [go_sem]⟩; repeat (first | with_reducible exact Below.refl _ _ | (with_reducible refine Below.drew ?_) | (with_reducible refine Below.alloc ?_ ?_ _; rotate_left; (focus (first | omega | (simp; omega) | (simp; done)))) | (with_reducible refine Below.setCell ?_ ?_ _; rotate_left; (focus (first | omega | (simp; omega) | (simp; done)))) | (with_reducible refine Below.trans ?_ (hb1.mono ?_); rotate_left; (focus (first | omega | (simp; omega) | (simp; done))))))
  clear hK K
  refine wpAnyH_take (i := 3) (v := ?_) rfl (by kernel_rfl) (by kernel_rfl) (by kernel_rfl) (fun _ _ _ h => h) (Or.inl ⟨by rfl, ?_⟩) (by assumption) ?_
  rotate_left
  · intro w hSw
    try dsimp only at hSw
    go_simp
    try with_reducible rfl
  try simp only [go_sem]
  refine wpAnyH_take (i := 4) (v := undef) rfl (by kernel_rfl) (by kernel_rfl) (by kernel_rfl) (fun _ _ _ h => h) (Or.inr ⟨by rfl, rfl⟩) (by assumption) ?_
  try simp only [go_sem]
  refine wpAnyH_take (i := 5) (v := undef) rfl (by kernel_rfl) (by kernel_rfl) (by kernel_rfl) (fun _ _ _ h => h) (Or.inr ⟨by rfl, rfl⟩) (by assumption) ?_
  try simp only [go_sem]
  refine wpAnyH_take (i := 6) (v := undef) rfl (by kernel_rfl) (by kernel_rfl) (by kernel_rfl) (fun _ _ _ h => h) (Or.inr ⟨by rfl, rfl⟩) (by assumption) ?_
  try simp only [go_sem]
  refine wpAnyH_take (i := 7) (v := undef) rfl (by kernel_rfl) (by kernel_rfl) (by kernel_rfl) (fun _ _ _ h => h) (Or.inr ⟨by rfl, rfl⟩) (by assumption) ?_
  try simp only [go_sem]
  refine wpAnyH_ready (rs := [8]) (by kernel_rfl) (by simp) ?_
  refine AllReadyH.cons rfl (fun K hK => ?_) AllReadyH.nil
  go_simp
  refine hK.out _ _ ?_ (fun hHeld => ?_)
  · try dsimp only
    (refine four_of_below (W := w.alloc (.cells #[.bool s, .int .i64 H.toInt, .int .i64 L.toInt, .int .i64 b] 31)) (n := w.heap.size + 1) ?_ (by omega) ⟨by simp [go_sem], by simp [go_sem], by simp [go_sem], by simp [go_sem]⟩; repeat (first | with_reducible exact Below.refl _ _ | (with_reducible refine Below.drew ?_) | (with_reducible refine Below.alloc ?_ ?_ _; rotate_left; (focus (first | omega | (simp; omega) | (simp; done)))) | (with_reducible refine Below.setCell ?_ ?_ _; rotate_left; (focus (first | omega | (simp; omega) | (simp; done)))) | (with_reducible refine Below.trans ?_ (hb1.mono ?_); rotate_left; (focus (first | omega | (simp; omega) | (simp; done))))))
  clear hK K
  refine wpAnyH_ready (rs := [9]) (by kernel_rfl) (by simp) ?_
  refine AllReadyH.cons rfl (fun K hK => ?_) AllReadyH.nil
  go_simp
  refine hK.out _ _ ?_ (fun hHeld => ?_)
  · try dsimp only
    (refine four_of_below (W := w.alloc (.cells #[.bool s, .int .i64 H.toInt, .int .i64 L.toInt, .int .i64 b] 31)) (n := w.heap.size + 1) ?_ (by omega) ⟨by simp [go_sem], by simp [go_sem], by simp [go_sem], by simp [go_sem]⟩; repeat (first | with_reducible exact Below.refl _ _ | (with_reducible refine Below.drew ?_) | (with_reducible refine Below.alloc ?_ ?_ _; rotate_left; (focus (first | omega | (simp; omega) | (simp; done)))) | (with_reducible refine Below.setCell ?_ ?_ _; rotate_left; (focus (first | omega | (simp; omega) | (simp; done)))) | (with_reducible refine Below.trans ?_ (hb1.mono ?_); rotate_left; (focus (first | omega | (simp; omega) | (simp; done))))))
  clear hK K
  refine wpAnyH_take (i := 10) (v := ?_) rfl (by kernel_rfl) (by kernel_rfl) (by kernel_rfl) (fun _ _ _ h => h) (Or.inl ⟨by rfl, ?_⟩) (by assumption) ?_
  rotate_left
  · intro w hSw
    try dsimp only at hSw
    go_simp
    try with_reducible rfl
  try simp only [go_sem]
  refine wpAnyH_take (i := 11) (v := ?_) rfl (by kernel_rfl) (by kernel_rfl) (by kernel_rfl) (fun _ _ _ h => h) (Or.inl ⟨by rfl, ?_⟩) (by assumption) ?_
  rotate_left
  · intro w hSw
    try dsimp only at hSw
    go_simp
    try with_reducible rfl
  try simp only [go_sem]
  refine wpAnyH_take (i := 12) (v := undef) rfl (by kernel_rfl) (by kernel_rfl) (by kernel_rfl) (fun _ _ _ h => h) (Or.inr ⟨by rfl, rfl⟩) (by assumption) ?_
  try simp only [go_sem]
  refine wpAnyH_take (i := 13) (v := undef) rfl (by kernel_rfl) (by kernel_rfl) (by kernel_rfl) (fun _ _ _ h => h) (Or.inr ⟨by rfl, rfl⟩) (by assumption) ?_
  try simp only [go_sem]
  refine wpAnyH_take (i := 14) (v := undef) rfl (by kernel_rfl) (by kernel_rfl) (by kernel_rfl) (fun _ _ _ h => h) (Or.inr ⟨by rfl, rfl⟩) (by assumption) ?_
  try simp only [go_sem]
  refine wpAnyH_take (i := 15) (v := undef) rfl (by kernel_rfl) (by kernel_rfl) (by kernel_rfl) (fun _ _ _ h => h) (Or.inr ⟨by rfl, rfl⟩) (by assumption) ?_
  try simp only [go_sem]
  refine wpAnyH_take (i := 17) (v := undef) rfl (by kernel_rfl) (by kernel_rfl) (by kernel_rfl) (fun _ _ _ h => h) (Or.inr ⟨by rfl, rfl⟩) (by assumption) ?_
  try simp only [go_sem]
  refine wpAnyH_take (i := 18) (v := undef) rfl (by kernel_rfl) (by kernel_rfl) (by kernel_rfl) (fun _ _ _ h => h) (Or.inr ⟨by rfl, rfl⟩) (by assumption) ?_
  try simp only [go_sem]
  refine wpAnyH_ready (rs := [16]) (by kernel_rfl) (by simp) ?_
  refine AllReadyH.cons rfl (fun K hK => ?_) AllReadyH.nil
  go_simp
  refine hK.out _ _ ?_ (fun hHeld => ?_)
  · try dsimp only
    (refine four_of_below (W := w.alloc (.cells #[.bool s, .int .i64 H.toInt, .int .i64 L.toInt, .int .i64 b] 31)) (n := w.heap.size + 1) ?_ (by omega) ⟨by simp [go_sem], by simp [go_sem], by simp [go_sem], by simp [go_sem]⟩; repeat (first | with_reducible exact Below.refl _ _ | (with_reducible refine Below.drew ?_) | (with_reducible refine Below.alloc ?_ ?_ _; rotate_left; (focus (first | omega | (simp; omega) | (simp; done)))) | (with_reducible refine Below.setCell ?_ ?_ _; rotate_left; (focus (first | omega | (simp; omega) | (simp; done)))) | (with_reducible refine Below.trans ?_ (hb1.mono ?_); rotate_left; (focus (first | omega | (simp; omega) | (simp; done))))))
  clear hK K
  refine wpAnyH_take (i := 19) (v := undef) rfl (by kernel_rfl) (by kernel_rfl) (by kernel_rfl) (fun _ _ _ h => h) (Or.inr ⟨by rfl, rfl⟩) (by assumption) ?_
  simp only [List.getElem_toArray, List.getElem_cons_succ, List.getElem_cons_zero]
  try simp only [go_sem]
  refine wpAnyH_take (i := 20) (v := ?_) rfl (by kernel_rfl) (by kernel_rfl) (by kernel_rfl) (fun _ _ _ h => h) (Or.inl ⟨by rfl, ?_⟩) (by assumption) ?_
  rotate_left
  · intro w hSw
    try dsimp only at hSw
    go_simp
    try with_reducible rfl
  simp only [List.getElem_toArray, List.getElem_cons_succ, List.getElem_cons_zero]
  try simp only [go_sem]
  refine wpAnyH_take (i := 21) (v := ?_) rfl (by kernel_rfl) (by kernel_rfl) (by kernel_rfl) (fun _ _ _ h => h) (Or.inl ⟨by rfl, ?_⟩) (by assumption) ?_
  rotate_left
  · intro w hSw
    try dsimp only at hSw
    go_simp
    try with_reducible rfl
  simp only [List.getElem_toArray, List.getElem_cons_succ, List.getElem_cons_zero]
  try simp only [go_sem]
  refine wpAnyH_done (by kernel_rfl) ?_ _
  go_wp2_with fail
  go_ret
  refine ⟨rfl, ?_⟩
  repeat (first | with_reducible exact Below.refl _ _ | (with_reducible refine Below.drew ?_) | (with_reducible refine Below.alloc ?_ ?_ _; rotate_left; (focus (first | omega | (simp; omega) | (simp; done)))) | (with_reducible refine Below.setCell ?_ ?_ _; rotate_left; (focus (first | omega | (simp; omega) | (simp; done)))) | (with_reducible refine Below.trans ?_ (hb1.mono ?_); rotate_left; (focus (first | omega | (simp; omega) | (simp; done)))))

set_option maxHeartbeats 1000000 in
theorem sPrefixOk_out (s : Bool) (H L : BitVec 64) (b : Int) (hok : okB s H.toInt L.toInt = true) (hin : decide (0 ≤ b ∧ b ≤ (wd s : Int)) = false) (w : World) :
    Calls Try.prog 16 #[.agg #[.bool s, .int .i64 H.toInt, .int .i64 L.toInt, .int .i64 b]] w fun e w' => e = .returned (.bool false) ∧ Below w.heap.size w w' := by
  have HK : Hid (∀ w, _) := sAddrOk_any s H.toInt L.toInt
  rw [hok] at HK
  clear hok
  have HI : Hid (∀ w, _) := l1In_any b 0 (wd s)
  rw [hin] at HI
  clear hin
  go_enter Try.func16, Try.ntmps16
  go_wp2_with fail
  refine wp_region_held_drew (S := (fun x => x.cell? ⟨w.heap.size, 0, none⟩ = some (.bool s) ∧ x.cell? ⟨w.heap.size, 1, none⟩ = some (.int .i64 H.toInt) ∧ x.cell? ⟨w.heap.size, 2, none⟩ = some (.int .i64 L.toInt) ∧ x.cell? ⟨w.heap.size, 3, none⟩ = some (.int .i64 b))) (by kernel_rfl) ?_ (fun hHeld => ?_)
  · try dsimp only
    (refine four_of_below (W := w.alloc (.cells #[.bool s, .int .i64 H.toInt, .int .i64 L.toInt, .int .i64 b] 31)) (n := w.heap.size + 1) ?_ (by omega) ⟨by simp [go_sem], by simp [go_sem], by simp [go_sem], by simp [go_sem]⟩; repeat (first | with_reducible exact Below.refl _ _ | (with_reducible refine Below.drew ?_) | (with_reducible refine Below.alloc ?_ ?_ _; rotate_left; (focus (first | omega | (simp; omega) | (simp; done)))) | (with_reducible refine Below.setCell ?_ ?_ _; rotate_left; (focus (first | omega | (simp; omega) | (simp; done))))))
  refine wpAnyH_take (i := 0) (v := ?_) rfl (by kernel_rfl) (by kernel_rfl) (by kernel_rfl) (fun _ _ _ h => h) (Or.inl ⟨by rfl, ?_⟩) (by assumption) ?_
  rotate_left
  · intro w hSw
    try dsimp only at hSw
    go_simp
    try with_reducible rfl
  try simp only [go_sem]
  refine wpAnyH_take (i := 1) (v := ?_) rfl (by kernel_rfl) (by kernel_rfl) (by kernel_rfl) (fun _ _ _ h => h) (Or.inl ⟨by rfl, ?_⟩) (by assumption) ?_
  rotate_left
  · intro w hSw
    try dsimp only at hSw
    go_simp
    try with_reducible rfl
  try simp only [go_sem]
  refine wpAnyH_ready (rs := [2]) (by kernel_rfl) (by simp) ?_
  refine AllReadyH.cons rfl (fun K hK => ?_) AllReadyH.nil
  go_simp
  go_wp2_with ((go_at_call 48; refine (HK.out _).mono ?_; rintro e w1 ⟨rfl, hb1⟩; have hz1 := hb1.size; (try simp at hz1); (first | (refine ltk (w.heap.size) (w1.heap.size) ?_ ?_; (focus omega); intro f10) | skip); (refine olds_k (w.heap.size + 1) hb1 ?_ ?_; (focus (first | omega | (simp; omega) | (simp; done))); intro hc1 hf1)))
  refine hK.out _ _ ?_ (fun hHeld => ?_)
  · try dsimp only
    (refine four_of_below (W := w.alloc (.cells #[.bool s, .int .i64 H.toInt, .int .i64 L.toInt, .int .i64 b] 31)) (n := w.heap.size + 1) ?_ (by omega) ⟨by simp [go_sem], by simp [go_sem], by simp [go_sem], by simp [go_sem]⟩; repeat (first | with_reducible exact Below.refl _ _ | (with_reducible refine Below.drew ?_) | (with_reducible refine Below.alloc ?_ ?_ _; rotate_left; (focus (first | omega | (simp; omega) | (simp; done)))) | (with_reducible refine Below.setCell ?_ ?_ _; rotate_left; (focus (first | omega | (simp; omega) | (simp; done)))) | (with_reducible refine Below.trans ?_ (hb1.mono ?_); rotate_left; (focus (first | omega | (simp; omega) | (simp; done))))))
  clear hK K
  refine wpAnyH_take (i := 3) (v := ?_) rfl (by kernel_rfl) (by kernel_rfl) (by kernel_rfl) (fun _ _ _ h => h) (Or.inl ⟨by rfl, ?_⟩) (by assumption) ?_
  rotate_left
  · intro w hSw
    try dsimp only at hSw
    go_simp
    try with_reducible rfl
  try simp only [go_sem]
  refine wpAnyH_take (i := 4) (v := ?_) rfl (by kernel_rfl) (by kernel_rfl) (by kernel_rfl) (fun _ _ _ h => h) (Or.inl ⟨by rfl, ?_⟩) (by assumption) ?_
  rotate_left
  · intro w hSw
    try dsimp only at hSw
    go_simp
    try with_reducible rfl
  try simp only [go_sem]
  refine wpAnyH_take (i := 5) (v := ?_) rfl (by kernel_rfl) (by kernel_rfl) (by kernel_rfl) (fun _ _ _ h => h) (Or.inl ⟨by rfl, ?_⟩) (by assumption) ?_
  rotate_left
  · intro w hSw
    try dsimp only at hSw
    go_simp
    try with_reducible rfl
  try simp only [go_sem]
  refine wpAnyH_take (i := 6) (v := ?_) rfl (by kernel_rfl) (by kernel_rfl) (by kernel_rfl) (fun _ _ _ h => h) (Or.inl ⟨by rfl, ?_⟩) (by assumption) ?_
  rotate_left
  · intro w hSw
    try dsimp only at hSw
    go_simp
    try with_reducible rfl
  try simp only [go_sem]
  refine wpAnyH_take (i := 7) (v := ?_) rfl (by kernel_rfl) (by kernel_rfl) (by kernel_rfl) (fun _ _ _ h => h) (Or.inl ⟨by rfl, ?_⟩) (by assumption) ?_
  rotate_left
  · intro w hSw
    try dsimp only at hSw
    go_simp
    try with_reducible rfl
  try simp only [go_sem]
  refine wpAnyH_ready (rs := [8]) (by kernel_rfl) (by simp) ?_
  refine AllReadyH.cons rfl (fun K hK => ?_) AllReadyH.nil
  go_simp
  go_wp2_with ((go_at_call 50; refine (l2Width_any s H.toInt L.toInt _).mono ?_; rintro e w2 ⟨rfl, hb2⟩; have hz2 := hb2.size; (try simp at hz2); (first | (refine ltk (w.heap.size) (w2.heap.size) ?_ ?_; (focus omega); intro f20) | skip); (refine olds_k (w.heap.size + 1) hb2 ?_ ?_; (focus (first | omega | (simp; omega) | (simp; done))); intro hc2 hf2)))
  refine hK.out _ _ ?_ (fun hHeld => ?_)
  · try dsimp only
    (refine four_of_below (W := w.alloc (.cells #[.bool s, .int .i64 H.toInt, .int .i64 L.toInt, .int .i64 b] 31)) (n := w.heap.size + 1) ?_ (by omega) ⟨by simp [go_sem], by simp [go_sem], by simp [go_sem], by simp [go_sem]⟩; repeat (first | with_reducible exact Below.refl _ _ | (with_reducible refine Below.drew ?_) | (with_reducible refine Below.alloc ?_ ?_ _; rotate_left; (focus (first | omega | (simp; omega) | (simp; done)))) | (with_reducible refine Below.setCell ?_ ?_ _; rotate_left; (focus (first | omega | (simp; omega) | (simp; done)))) | (with_reducible refine Below.trans ?_ (hb2.mono ?_); rotate_left; (focus (first | omega | (simp; omega) | (simp; done)))) | (with_reducible refine Below.trans ?_ (hb1.mono ?_); rotate_left; (focus (first | omega | (simp; omega) | (simp; done))))))
  clear hK K
  refine wpAnyH_ready (rs := [9]) (by kernel_rfl) (by simp) ?_
  refine AllReadyH.cons rfl (fun K hK => ?_) AllReadyH.nil
  go_simp
  go_wp2_with ((go_at_call 49; refine (HI.out _).mono ?_; rintro e w3 ⟨rfl, rfl⟩))
  refine hK.out _ _ ?_ (fun hHeld => ?_)
  · try dsimp only
    (refine four_of_below (W := w.alloc (.cells #[.bool s, .int .i64 H.toInt, .int .i64 L.toInt, .int .i64 b] 31)) (n := w.heap.size + 1) ?_ (by omega) ⟨by simp [go_sem], by simp [go_sem], by simp [go_sem], by simp [go_sem]⟩; repeat (first | with_reducible exact Below.refl _ _ | (with_reducible refine Below.drew ?_) | (with_reducible refine Below.alloc ?_ ?_ _; rotate_left; (focus (first | omega | (simp; omega) | (simp; done)))) | (with_reducible refine Below.setCell ?_ ?_ _; rotate_left; (focus (first | omega | (simp; omega) | (simp; done)))) | (with_reducible refine Below.trans ?_ (hb2.mono ?_); rotate_left; (focus (first | omega | (simp; omega) | (simp; done)))) | (with_reducible refine Below.trans ?_ (hb1.mono ?_); rotate_left; (focus (first | omega | (simp; omega) | (simp; done))))))
  clear hK K
  refine wpAnyH_take (i := 10) (v := ?_) rfl (by kernel_rfl) (by kernel_rfl) (by kernel_rfl) (fun _ _ _ h => h) (Or.inl ⟨by rfl, ?_⟩) (by assumption) ?_
  rotate_left
  · intro w hSw
    try dsimp only at hSw
    go_simp
    try with_reducible rfl
  try simp only [go_sem]
  refine wpAnyH_take (i := 11) (v := ?_) rfl (by kernel_rfl) (by kernel_rfl) (by kernel_rfl) (fun _ _ _ h => h) (Or.inl ⟨by rfl, ?_⟩) (by assumption) ?_
  rotate_left
  · intro w hSw
    try dsimp only at hSw
    go_simp
    try with_reducible rfl
  try simp only [go_sem]
  refine wpAnyH_take (i := 12) (v := undef) rfl (by kernel_rfl) (by kernel_rfl) (by kernel_rfl) (fun _ _ _ h => h) (Or.inr ⟨by rfl, rfl⟩) (by assumption) ?_
  try simp only [go_sem]
  refine wpAnyH_take (i := 13) (v := undef) rfl (by kernel_rfl) (by kernel_rfl) (by kernel_rfl) (fun _ _ _ h => h) (Or.inr ⟨by rfl, rfl⟩) (by assumption) ?_
  try simp only [go_sem]
  refine wpAnyH_take (i := 14) (v := undef) rfl (by kernel_rfl) (by kernel_rfl) (by kernel_rfl) (fun _ _ _ h => h) (Or.inr ⟨by rfl, rfl⟩) (by assumption) ?_
  try simp only [go_sem]
  refine wpAnyH_take (i := 15) (v := undef) rfl (by kernel_rfl) (by kernel_rfl) (by kernel_rfl) (fun _ _ _ h => h) (Or.inr ⟨by rfl, rfl⟩) (by assumption) ?_
  try simp only [go_sem]
  refine wpAnyH_take (i := 17) (v := undef) rfl (by kernel_rfl) (by kernel_rfl) (by kernel_rfl) (fun _ _ _ h => h) (Or.inr ⟨by rfl, rfl⟩) (by assumption) ?_
  try simp only [go_sem]
  refine wpAnyH_take (i := 18) (v := undef) rfl (by kernel_rfl) (by kernel_rfl) (by kernel_rfl) (fun _ _ _ h => h) (Or.inr ⟨by rfl, rfl⟩) (by assumption) ?_
  try simp only [go_sem]
  refine wpAnyH_ready (rs := [16]) (by kernel_rfl) (by simp) ?_
  refine AllReadyH.cons rfl (fun K hK => ?_) AllReadyH.nil
  go_simp
  refine hK.out _ _ ?_ (fun hHeld => ?_)
  · try dsimp only
    (refine four_of_below (W := w.alloc (.cells #[.bool s, .int .i64 H.toInt, .int .i64 L.toInt, .int .i64 b] 31)) (n := w.heap.size + 1) ?_ (by omega) ⟨by simp [go_sem], by simp [go_sem], by simp [go_sem], by simp [go_sem]⟩; repeat (first | with_reducible exact Below.refl _ _ | (with_reducible refine Below.drew ?_) | (with_reducible refine Below.alloc ?_ ?_ _; rotate_left; (focus (first | omega | (simp; omega) | (simp; done)))) | (with_reducible refine Below.setCell ?_ ?_ _; rotate_left; (focus (first | omega | (simp; omega) | (simp; done)))) | (with_reducible refine Below.trans ?_ (hb2.mono ?_); rotate_left; (focus (first | omega | (simp; omega) | (simp; done)))) | (with_reducible refine Below.trans ?_ (hb1.mono ?_); rotate_left; (focus (first | omega | (simp; omega) | (simp; done))))))
  clear hK K
  refine wpAnyH_take (i := 19) (v := undef) rfl (by kernel_rfl) (by kernel_rfl) (by kernel_rfl) (fun _ _ _ h => h) (Or.inr ⟨by rfl, rfl⟩) (by assumption) ?_
  simp only [List.getElem_toArray, List.getElem_cons_succ, List.getElem_cons_zero]
  try simp only [go_sem]
  refine wpAnyH_take (i := 20) (v := ?_) rfl (by kernel_rfl) (by kernel_rfl) (by kernel_rfl) (fun _ _ _ h => h) (Or.inl ⟨by rfl, ?_⟩) (by assumption) ?_
  rotate_left
  · intro w hSw
    try dsimp only at hSw
    go_simp
    try with_reducible rfl
  simp only [List.getElem_toArray, List.getElem_cons_succ, List.getElem_cons_zero]
  try simp only [go_sem]
  refine wpAnyH_take (i := 21) (v := ?_) rfl (by kernel_rfl) (by kernel_rfl) (by kernel_rfl) (fun _ _ _ h => h) (Or.inl ⟨by rfl, ?_⟩) (by assumption) ?_
  rotate_left
  · intro w hSw
    try dsimp only at hSw
    go_simp
    try with_reducible rfl
  simp only [List.getElem_toArray, List.getElem_cons_succ, List.getElem_cons_zero]
  try simp only [go_sem]
  refine wpAnyH_done (by kernel_rfl) ?_ _
  go_wp2_with fail
  go_ret
  refine ⟨rfl, ?_⟩
  repeat (first | with_reducible exact Below.refl _ _ | (with_reducible refine Below.drew ?_) | (with_reducible refine Below.alloc ?_ ?_ _; rotate_left; (focus (first | omega | (simp; omega) | (simp; done)))) | (with_reducible refine Below.setCell ?_ ?_ _; rotate_left; (focus (first | omega | (simp; omega) | (simp; done)))) | (with_reducible refine Below.trans ?_ (hb2.mono ?_); rotate_left; (focus (first | omega | (simp; omega) | (simp; done)))) | (with_reducible refine Below.trans ?_ (hb1.mono ?_); rotate_left; (focus (first | omega | (simp; omega) | (simp; done)))))

set_option maxHeartbeats 1000000 in
theorem sPrefixOk_in (s : Bool) (H L : BitVec 64) (b : Int) (n : Nat) (hok : okB s H.toInt L.toInt = true) (hin : decide (0 ≤ b ∧ b ≤ (wd s : Int)) = true) (hn : n ≤ wd s) (hb : b = (wd s : Int) - n) (w : World) :
    Calls Try.prog 16 #[.agg #[.bool s, .int .i64 H.toInt, .int .i64 L.toInt, .int .i64 b]] w fun e w' => e = .returned (.bool (hasB s H L n s H L)) ∧ Below w.heap.size w w' := by
  have HM : Hid (∀ w, _) := l2Mask_any s H L n b hok hn hb
  have hq := hasEq s H L n s H L
  have HK : Hid (∀ w, _) := sAddrOk_any s H.toInt L.toInt
  rw [hok] at HK
  clear hok
  have HI : Hid (∀ w, _) := l1In_any b 0 (wd s)
  rw [hin] at HI
  clear hin
  clear hn hb
  generalize hasB s H L n s H L = B at hq ⊢
  go_enter Try.func16, Try.ntmps16
  go_wp2_with fail
  go_region_held3 (fun x => x.cell? ⟨w.heap.size, 0, none⟩ = some (.bool s) ∧ x.cell? ⟨w.heap.size, 1, none⟩ = some (.int .i64 H.toInt) ∧ x.cell? ⟨w.heap.size, 2, none⟩ = some (.int .i64 L.toInt) ∧ x.cell? ⟨w.heap.size, 3, none⟩ = some (.int .i64 b)) ((refine four_of_below (W := w.alloc (.cells #[.bool s, .int .i64 H.toInt, .int .i64 L.toInt, .int .i64 b] 31)) (n := w.heap.size + 1) ?_ (by omega) ⟨by simp [go_sem], by simp [go_sem], by simp [go_sem], by simp [go_sem]⟩; repeat (first | with_reducible exact Below.refl _ _ | (with_reducible refine Below.drew ?_) | (with_reducible refine Below.alloc ?_ ?_ _; rotate_left; (focus (first | omega | (simp; omega) | (simp; done)))) | (with_reducible refine Below.setCell ?_ ?_ _; rotate_left; (focus (first | omega | (simp; omega) | (simp; done)))) | (with_reducible refine Below.trans ?_ (hb4.mono ?_); rotate_left; (focus (first | omega | (simp; omega) | (simp; done)))) | (with_reducible refine Below.trans ?_ (hb2.mono ?_); rotate_left; (focus (first | omega | (simp; omega) | (simp; done)))) | (with_reducible refine Below.trans ?_ (hb1.mono ?_); rotate_left; (focus (first | omega | (simp; omega) | (simp; done))))))) (first | (go_at_call 48; refine (HK.out _).mono ?_; rintro e w1 ⟨rfl, hb1⟩; have hz1 := hb1.size; (try simp at hz1); (first | (refine ltk (w.heap.size) (w1.heap.size) ?_ ?_; (focus omega); intro f10) | skip); (refine olds_k (w.heap.size + 1) hb1 ?_ ?_; (focus (first | omega | (simp; omega) | (simp; done))); intro hc1 hf1)) | (go_at_call 50; refine (l2Width_any s H.toInt L.toInt _).mono ?_; rintro e w2 ⟨rfl, hb2⟩; have hz2 := hb2.size; (try simp at hz2); (first | (refine ltk (w.heap.size) (w2.heap.size) ?_ ?_; (focus omega); intro f20) | skip); (refine olds_k (w.heap.size + 1) hb2 ?_ ?_; (focus (first | omega | (simp; omega) | (simp; done))); intro hc2 hf2)) | (go_at_call 49; refine (HI.out _).mono ?_; rintro e w3 ⟨rfl, rfl⟩) | (go_at_call 51; refine (HM.out _).mono ?_; rintro e w4 ⟨rfl, hb4⟩; have hz4 := hb4.size; (try simp at hz4); (first | (refine ltk (w.heap.size) (w4.heap.size) ?_ ?_; (focus omega); intro f40) | skip); (refine olds_k (w.heap.size + 1) hb4 ?_ ?_; (focus (first | omega | (simp; omega) | (simp; done))); intro hc4 hf4)))
  all_goals
    go_wp2_with fail
    go_ret
    refine ⟨rfl, ?_⟩
    repeat (first | with_reducible exact Below.refl _ _ | (with_reducible refine Below.drew ?_) | (with_reducible refine Below.alloc ?_ ?_ _; rotate_left; (focus (first | omega | (simp; omega) | (simp; done)))) | (with_reducible refine Below.setCell ?_ ?_ _; rotate_left; (focus (first | omega | (simp; omega) | (simp; done)))) | (with_reducible refine Below.trans ?_ (hb4.mono ?_); rotate_left; (focus (first | omega | (simp; omega) | (simp; done)))) | (with_reducible refine Below.trans ?_ (hb2.mono ?_); rotate_left; (focus (first | omega | (simp; omega) | (simp; done)))) | (with_reducible refine Below.trans ?_ (hb1.mono ?_); rotate_left; (focus (first | omega | (simp; omega) | (simp; done)))))

theorem sPrefixOk_any (s : Bool) (H L : BitVec 64) (b : Int) (w : World) :
    Calls Try.prog 16 #[.agg #[.bool s, .int .i64 H.toInt, .int .i64 L.toInt, .int .i64 b]] w fun e w' => e = .returned (.bool (pokB s H L b)) ∧ Below w.heap.size w w' := by
  cases hok : okB s H.toInt L.toInt
  · rw [show pokB s H L b = false by simp [pokB, hok]]
    exact sPrefixOk_bad s H L b hok w
  · cases hin : decide (0 ≤ b ∧ b ≤ (wd s : Int))
    · rw [show pokB s H L b = false by rw [pokB, hok, hin]; rfl]
      exact sPrefixOk_out s H L b hok hin w
    · have h := of_decide_eq_true hin
      rw [show pokB s H L b = hasB s H L ((wd s : Int) - b).toNat s H L by rw [pokB, hok, hin]; rfl]
      exact sPrefixOk_in s H L b _ hok hin (by omega) (by omega) w

end Go.Proofs.Ytgohffeneibhdaa

namespace Go.Proofs.Ytgohffeneibhdaa
open Go.RowKit

theorem pokB_parts {s : Bool} {H L : BitVec 64} {b : Int} (hp : pokB s H L b = true) : okB s H.toInt L.toInt = true ∧ (0 ≤ b ∧ b ≤ (wd s : Int)) ∧ hasB s H L ((wd s : Int) - b).toNat s H L = true := by
  simp only [pokB, Bool.and_eq_true, decide_eq_true_eq] at hp
  exact hp
theorem wrapSub (s : Bool) (b : Int) (h : 0 ≤ b ∧ b ≤ (wd s : Int)) : IntKind.i64.wrap ((wd s : Int) - b) = ((((wd s : Int) - b).toNat : Nat) : Int) := by
  have := wd_le' s
  rw [← w64]; unfold wrap64; omega

theorem spanOf_yes (s : Bool) (H L : BitVec 64) (b : Int) (n : Nat) (hn : (n : Int) = (wd s : Int) - b) (hp : pokB s H L b = true) (w : World) :
    Calls Try.prog 37 #[.agg #[.bool s, .int .i64 H.toInt, .int .i64 L.toInt, .int .i64 b]] w fun e w' => e = .returned (.tuple #[.agg #[.bool s, .int .i64 H.toInt, .int .i64 L.toInt, .int .i64 n], .bool true]) ∧ Below w.heap.size w w' := by
  obtain ⟨hok, hb, hh⟩ := pokB_parts hp
  have e : ((wd s : Int) - b).toNat = n := by omega
  rw [e] at hh
  have := wd_le' s
  have hs := wrapSub s b hb
  rw [e] at hs
  exact spanOf_ok s H L b n (by omega) hok hb.1 hb.2 hs hh w

theorem spanOf_no (s : Bool) (H L : BitVec 64) (b : Int) (hp : pokB s H L b = false) (w : World) :
    Calls Try.prog 37 #[.agg #[.bool s, .int .i64 H.toInt, .int .i64 L.toInt, .int .i64 b]] w fun e w' => e = .returned (.tuple #[.agg #[.bool false, .int .i64 0, .int .i64 0, .int .i64 0], .bool false]) ∧ Below w.heap.size w w' := by
  cases hok : okB s H.toInt L.toInt
  · exact spanOf_bad s H L b hok w
  · by_cases h0 : b < 0
    · exact spanOf_neg s H L b hok h0 w
    · by_cases h1 : (wd s : Int) < b
      · exact spanOf_big s H L b hok (by omega) h1 w
      · have hb : 0 ≤ b ∧ b ≤ (wd s : Int) := by omega
        have hh : hasB s H L ((wd s : Int) - b).toNat s H L = false := by
          rw [pokB, hok, decide_eq_true hb] at hp
          simpa using hp
        have := wd_le' s
        exact spanOf_off s H L b _ (by omega) hok hb.1 hb.2 (wrapSub s b hb) hh w

end Go.Proofs.Ytgohffeneibhdaa
