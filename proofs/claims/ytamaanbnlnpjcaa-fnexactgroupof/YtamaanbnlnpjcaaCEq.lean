/-
  Comparisons of two rows of bytes: the specification's own, the laws', the library's; nothing old turns.
-/
import Derived.Test.YtamaanbnlnpjcaaCByt
namespace Go.Proofs.Ytamaanbnlnpjcaa
open Go.RowKit

set_option maxHeartbeats 1000000 in
theorem l3Same_any (a b : Option Addr) (c d : Nat) (xs ys : List Int) (w : World) (ha : Byt w a xs) (hb : Byt w b ys) (hl : xs.length ≤ 9000000000) (hm : ys.length ≤ 9000000000) :
    Calls Try.prog 99 #[.slice a xs.length c, .slice b ys.length d] w fun e w' => e = .returned (.bool (eqL xs ys)) ∧ Below w.heap.size w w' := by
  obtain ⟨n, hn⟩ : ∃ n, n = xs.length := ⟨_, rfl⟩
  obtain ⟨m, hmm⟩ : ∃ m, m = ys.length := ⟨_, rfl⟩
  rw [← hn, ← hmm]
  rw [← hn] at hl
  rw [← hmm] at hm
  by_cases hnm : n = m
  · subst hnm
    have HA : Hid (Byt w a xs) := ha
    have HB : Hid (Byt w b ys) := hb
    have HN : Hid (n = xs.length) := hn
    have HM : Hid (n = ys.length) := hmm
    clear ha hb hn hmm
    go_enter Try.func99, Try.ntmps99
    go_wp2
    go_loopw [5] (fun t5 wr => ∃ k : Nat, k ≤ n ∧ t5 = .int .i64 k ∧ (∀ j, j < k → xs[j]? = ys[j]?) ∧ Below w.heap.size w wr) (fun t5 _ => n - (intOf t5).toNat)
    case atStart => exact ⟨0, Nat.zero_le _, rfl, fun j hj => absurd hj (Nat.not_lt_zero j), Below.refl _ _⟩
    case round =>
      obtain ⟨k, hk, rfl, heq, hbel⟩ := hrel
      have HE : Hid (∀ j, j < k → xs[j]? = ys[j]?) := heq
      have HW : Hid (Below w.heap.size w wr) := hbel
      by_cases hlt : k < n
      · obtain ⟨p, o, x, rfl, hp, hc, hx⟩ := HA.out k (by rw [← HN.out]; exact hlt)
        obtain ⟨q, r, y, rfl, hq, hd, hy⟩ := HB.out k (by rw [← HM.out]; exact hlt)
        have c1 : wr.cell? ⟨p, o + k, none⟩ = some (.int .u8 x) := (hbel.cell hp).trans hc
        have c2 : wr.cell? ⟨q, r + k, none⟩ = some (.int .u8 y) := (hbel.cell hq).trans hd
        have HX : Hid (xs[k]? = some x) := hx
        have HY : Hid (ys[k]? = some y) := hy
        clear hc hd heq hbel hx hy
        by_cases hxy : x = y
        · subst hxy
          have hb1 : (x != x) = false := by simp
          go_wp2_with fail
          go_region
          all_goals
            go_wp2
            go_roundw
            case rel =>
              refine ⟨k + 1, by omega, by go_num, fun j hj => ?_, HW.out.drew⟩
              by_cases hjk : j = k
              · subst hjk; rw [HX.out, HY.out]
              · exact HE.out j (by omega)
            case measure => simp [intOf]; omega
        · have hb1 : (x != y) = true := by simp [hxy]
          have HF : Hid (eqL xs ys = false) := eqL_at k HX.out HY.out hxy
          clear hxy
          go_wp2_with fail
          go_region
          all_goals
            go_wp2
            go_ret
            rw [HF.out]
            exact ⟨rfl, HW.out.drew⟩
      · have HF : Hid (eqL xs ys = true) := eqL_all (by rw [← HN.out, ← HM.out]) (fun j hj => heq j (by have := HN.out; omega))
        clear heq hbel
        go_wp2
        go_ret
        rw [HF.out]
        exact ⟨rfl, HW.out⟩
  · have HF : Hid (eqL xs ys = false) := eqL_len (by rw [← hn, ← hmm]; exact hnm)
    have hq : ((n : Int) != (m : Int)) = true := by rw [bne_iff_ne]; omega
    clear ha hb hn hmm hnm
    go_enter Try.func99, Try.ntmps99
    go_wp2
    go_ret
    rw [HF.out]
    exact ⟨rfl, Below.refl _ _⟩

end Go.Proofs.Ytamaanbnlnpjcaa
