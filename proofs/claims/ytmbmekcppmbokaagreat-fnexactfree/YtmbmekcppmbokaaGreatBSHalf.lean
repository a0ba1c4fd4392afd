/-
  The specification's l2Halves of a right prefix, by its plain twin; nothing old in memory turns.
-/
import Derived.Test.YtmbmekcppmbokaaGreatBSLa2
import Derived.Deep.RegionHeld3
import Derived.Deep.RegionWith
import Derived.Deep.DeepCutAuto
namespace Go.Proofs.YtmbmekcppmbokaaGreat
open Go.RowKit

theorem wd_le'' (s : Bool) : wd s ≤ 128 := by cases s <;> decide
theorem okB_low (L : BitVec 64) (h : L.toNat < 4294967296) : okB false (0 : BitVec 64).toInt L.toInt = true := by
  have e := BitVec.toInt_eq_toNat_cond (x := L)
  have h1 : (0 : BitVec 64).toInt = 0 := by decide
  rw [h1]
  refine okB_yes _ ?_ ?_ <;> split at e <;> omega
theorem okB_fill (s : Bool) (H L : BitVec 64) (n : Nat) (hn : n ≤ wd s) (hok : okB s H.toInt L.toInt = true) : okB s (fH n H).toInt (fL n L).toInt = true := by
  cases s
  · obtain ⟨rfl, hL⟩ := okB_four H L hok
    have hn' : n ≤ 32 := by simpa [wd] using hn
    have z : (fH n (0 : BitVec 64)) = 0 := by simp [fH, mh_32 n hn']
    rw [z]
    exact okB_low _ (or_lt32 L _ hL (ml_lt n hn'))
  · exact okB_t _ _
theorem okB_clr (s : Bool) (H L : BitVec 64) (n : Nat) (hok : okB s H.toInt L.toInt = true) : okB s (cH n H).toInt (cL n L).toInt = true := by
  cases s
  · obtain ⟨rfl, hL⟩ := okB_four H L hok
    have z : (cH n (0 : BitVec 64)) = 0 := by simp [cH]
    rw [z]
    exact okB_low _ (and_lt32 L _ hL)
  · exact okB_t _ _

set_option maxHeartbeats 1000000 in
theorem l2Halves_any (s : Bool) (H L : BitVec 64) (b : Int) (k : Nat) (hn : (k : Int) + 1 = (wd s : Int) - b) (hok : okB s H.toInt L.toInt = true) (hb : 0 ≤ b) (w : World) :
    Calls Tryz.prog 77 #[.agg #[.bool s, .int .i64 H.toInt, .int .i64 L.toInt, .int .i64 b]] w fun e w' => e = .returned (.tuple #[.agg #[.bool s, .int .i64 H.toInt, .int .i64 L.toInt, .int .i64 (b + 1)], .agg #[.bool s, .int .i64 (cH k (fH (k + 1) H)).toInt, .int .i64 (cL k (fL (k + 1) L)).toInt, .int .i64 (b + 1)]]) ∧ Below w.heap.size w w' := by
  have hw := wd_le'' s
  have HL : Hid (∀ w, _) := l2Last_any s H L (k + 1) b hok (by omega) (by omega)
  have HM : Hid (∀ w, _) := l2Mask_any s (fH (k + 1) H) (fL (k + 1) L) k (b + 1) (okB_fill s H L (k + 1) (by omega) hok) (by omega) (by omega)
  have hw1 : wrap64 (b + 1) = b + 1 := by unfold wrap64; omega
  have hw2 : IntKind.i64.wrap (b + 1) = b + 1 := by rw [← w64]; exact hw1
  generalize cH k (fH (k + 1) H) = X1 at HM ⊢
  generalize cL k (fL (k + 1) L) = X2 at HM ⊢
  generalize fH (k + 1) H = F1 at HM HL
  generalize fL (k + 1) L = F2 at HM HL
  clear hn hok hw
  go_enter Tryz.func77, Tryz.ntmps77
  go_upto_region 2 with fail
  go_cut [5] (fun t5 X => ∃ r N : Nat, t5 = .pointer (some ⟨r, 0, none⟩) ∧ (X.cell? ⟨w.heap.size, 0, none⟩ = some (.bool s) ∧ X.cell? ⟨w.heap.size, 1, none⟩ = some (.int .i64 H.toInt) ∧ X.cell? ⟨w.heap.size, 2, none⟩ = some (.int .i64 L.toInt) ∧ X.cell? ⟨w.heap.size, 3, none⟩ = some (.int .i64 b)) ∧ (X.cell? ⟨w.heap.size + 3, 0, none⟩ = some (.bool s) ∧ X.cell? ⟨w.heap.size + 3, 1, none⟩ = some (.int .i64 H.toInt) ∧ X.cell? ⟨w.heap.size + 3, 2, none⟩ = some (.int .i64 L.toInt) ∧ X.cell? ⟨w.heap.size + 3, 3, none⟩ = some (.int .i64 (b + 1))) ∧ (X.cell? ⟨r, 0, none⟩ = some (.bool s) ∧ X.cell? ⟨r, 1, none⟩ = some (.int .i64 F1.toInt) ∧ X.cell? ⟨r, 2, none⟩ = some (.int .i64 F2.toInt)) ∧ (X.cell? ⟨w.heap.size + 1, 0, none⟩ = some (.bool false) ∧ X.cell? ⟨w.heap.size + 1, 1, none⟩ = some (.int .i64 0) ∧ X.cell? ⟨w.heap.size + 1, 2, none⟩ = some (.int .i64 0) ∧ X.cell? ⟨w.heap.size + 1, 3, none⟩ = some (.int .i64 0)) ∧ (X.cell? ⟨w.heap.size + 2, 0, none⟩ = some (.bool false) ∧ X.cell? ⟨w.heap.size + 2, 1, none⟩ = some (.int .i64 0) ∧ X.cell? ⟨w.heap.size + 2, 2, none⟩ = some (.int .i64 0) ∧ X.cell? ⟨w.heap.size + 2, 3, none⟩ = some (.int .i64 0)) ∧ (X.frozen? ⟨w.heap.size + 1, 0, none⟩ = false ∧ X.frozen? ⟨w.heap.size + 1, 1, none⟩ = false ∧ X.frozen? ⟨w.heap.size + 1, 2, none⟩ = false ∧ X.frozen? ⟨w.heap.size + 1, 3, none⟩ = false) ∧ (X.frozen? ⟨w.heap.size + 2, 0, none⟩ = false ∧ X.frozen? ⟨w.heap.size + 2, 1, none⟩ = false ∧ X.frozen? ⟨w.heap.size + 2, 2, none⟩ = false ∧ X.frozen? ⟨w.heap.size + 2, 3, none⟩ = false) ∧ w.heap.size + 3 < r ∧ X.heap.size = N ∧ r < N ∧ Below w.heap.size w X)
  case first =>
    go_wp2_with fail
    refine (HL.out _).mono ?_
    rintro e w1 ⟨rfl, hb1⟩
    have hz1 := hb1.size
    try simp at hz1
    have f10 : w.heap.size < w1.heap.size := by omega
    have f11 : w.heap.size + 1 < w1.heap.size := by omega
    have f12 : w.heap.size + 2 < w1.heap.size := by omega
    have f13 : w.heap.size + 3 < w1.heap.size := by omega
    refine olds_k (w.heap.size + 4) hb1 ?_ ?_
    · first | omega | (simp; omega) | (simp; done)
    intro hc1 hf1
    go_wp2_with fail
    go_meet
    refine ⟨_, _, rfl, ⟨?_, ?_, ?_, ?_⟩, ⟨?_, ?_, ?_, ?_⟩, ⟨?_, ?_, ?_⟩, ⟨?_, ?_, ?_, ?_⟩, ⟨?_, ?_, ?_, ?_⟩, ⟨?_, ?_, ?_, ?_⟩, ⟨?_, ?_, ?_, ?_⟩, ?_, rfl, ?_, ?_⟩
    all_goals try (go_simp; done)
    all_goals try omega
    all_goals try (simp; omega)
    repeat (first | with_reducible exact Below.refl _ _ | (with_reducible refine Below.drew ?_) | (with_reducible refine Below.alloc ?_ ?_ _; rotate_left; (focus (first | omega | (simp; omega) | (simp; done)))) | (with_reducible refine Below.setCell ?_ ?_ _; rotate_left; (focus (first | omega | (simp; omega) | (simp; done)))) | (with_reducible refine Below.trans ?_ (hb1.mono ?_); rotate_left; (focus (first | omega | (simp; omega) | (simp; done)))))
  case rest =>
    obtain ⟨r, N, rfl, ⟨a0, a1, a2, a3⟩, ⟨b0, b1, b2, b3⟩, ⟨r0, r1, r2⟩, ⟨c0, c1, c2, c3⟩, ⟨d0, d1, d2, d3⟩, ⟨g0, g1, g2, g3⟩, ⟨h0, h1, h2, h3⟩, m1, hN, m3, hX⟩ := hcut
    go_wp2_with fail
    have np1 : w.heap.size + 1 ≠ r := by omega
    have np2 : w.heap.size + 2 ≠ r := by omega
    have e0 : w.heap.size < N := by omega
    have e1 : w.heap.size + 1 < N := by omega
    have e2 : w.heap.size + 2 < N := by omega
    have e3 : w.heap.size + 3 < N := by omega
    go_region_held3 (fun x => x.cell? ⟨w.heap.size, 0, none⟩ = some (.bool s) ∧ x.cell? ⟨w.heap.size, 1, none⟩ = some (.int .i64 H.toInt) ∧ x.cell? ⟨w.heap.size, 2, none⟩ = some (.int .i64 L.toInt) ∧ x.cell? ⟨w.heap.size, 3, none⟩ = some (.int .i64 b) ∧ x.cell? ⟨w.heap.size + 3, 0, none⟩ = some (.bool s) ∧ x.cell? ⟨w.heap.size + 3, 1, none⟩ = some (.int .i64 H.toInt) ∧ x.cell? ⟨w.heap.size + 3, 2, none⟩ = some (.int .i64 L.toInt) ∧ x.cell? ⟨w.heap.size + 3, 3, none⟩ = some (.int .i64 (b + 1)) ∧ x.cell? ⟨r, 0, none⟩ = some (.bool s) ∧ x.cell? ⟨r, 1, none⟩ = some (.int .i64 F1.toInt) ∧ x.cell? ⟨r, 2, none⟩ = some (.int .i64 F2.toInt)) ((repeat' apply And.intro) <;> (first | (go_simp; done) | (go_keep; done))) ((go_at_call 52; refine (HM.out _).mono ?_; rintro e w2 ⟨rfl, hb2⟩; have hz2 := hb2.size; (try simp at hz2); (refine ltk (w.heap.size + 1) (w2.heap.size) ?_ ?_; (focus omega); intro f21); (refine ltk (w.heap.size + 2) (w2.heap.size) ?_ ?_; (focus omega); intro f22); (refine olds_k N hb2 ?_ ?_; (focus (first | omega | (simp; omega) | (simp; done))); intro hc2 hf2)))
    all_goals
      go_wp2_with fail
      refine bodyPost_ret (v := .tuple #[.agg #[.bool s, .int .i64 H.toInt, .int .i64 L.toInt, .int .i64 (b + 1)], .agg #[.bool s, .int .i64 X1.toInt, .int .i64 X2.toInt, .int .i64 (b + 1)]]) (by simp [results, Tryz.results77, go_sem, hc2, c0, c1, c2, c3, d0, d1, d2, d3, e1, e2]) rfl ⟨rfl, ?_⟩
      repeat (first | with_reducible exact hX | (with_reducible refine Below.drew ?_) | (with_reducible refine Below.alloc ?_ ?_ _; rotate_left; (focus (first | omega | (simp; omega) | (simp; done)))) | (with_reducible refine Below.setCell ?_ ?_ _; rotate_left; (focus (first | omega | (simp; omega) | (simp; done)))) | (with_reducible refine Below.trans ?_ (hb2.mono ?_); rotate_left; (focus (first | omega | (simp; omega) | (simp; done)))))

end Go.Proofs.YtmbmekcppmbokaaGreat
