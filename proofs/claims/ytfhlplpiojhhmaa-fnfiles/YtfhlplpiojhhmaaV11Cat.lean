/-
  The library's Concat of two rows of bytes, also of none: one row of its own that has both; nothing old turns.
-/
import Derived.Test.YtfhlplpiojhhmaaX11
import Derived.Test.YtfhlplpiojhhmaaCCat
namespace Go.Proofs.Ytfhlplpiojhhmaa
open Go.RowKit

set_option maxHeartbeats 2000000 in
theorem grow_zero (w : World) :
    Calls Try.prog 39 #[.slice none 0 0, .int .i64 0] w fun e w' => e = .returned (.slice none 0 0) ∧ w = w' := by
  go_enter Try.func39, Try.ntmps39
  go_wp2
  go_ret
  exact ⟨rfl, rfl⟩

set_option maxHeartbeats 4000000 in
theorem concat_zero (q n c : Nat) (zss : List (List Int)) (w : World) (hn : zss.length = n) (hn9 : n ≤ 1000) (hq : q < w.heap.size) (hR : Rws w q zss) (h0 : ∀ zs ∈ zss, zs = []) :
    Calls Try.prog 31 #[.slice (some ⟨q, 0, none⟩) n c] w fun e w' => ∃ a' c', e = .returned (.slice a' 0 c') ∧ OwnG KBy 5 w' w.heap.size (.slice a' 0 c') [] ∧ Below w.heap.size w w' := by
  have HN := hid' hn
  have HR : Hid (∀ j, j < n → ∃ a c, w.cell? ⟨q, j, none⟩ = some (.slice a 0 c) ∧ (a = none → c = 0)) := hid' fun j hj => by
    obtain ⟨a, c1, zs, h1, h2, _, h4⟩ := hR j (by omega)
    have : zs = [] := h0 zs (List.mem_of_getElem? h1)
    subst this
    exact ⟨a, c1, h2, h4⟩
  clear hn hR h0
  go_enter Try.func31, Try.ntmps31
  go_wp2
  go_loop [3, 11] (fun t3 t11 => ∃ k : Nat, k ≤ n ∧ t11 = .int .i64 k ∧ t3 = .int .i64 0) (fun _ t11 => n - (intOf t11).toNat)
  case atStart => exact ⟨0, Nat.zero_le _, rfl, rfl⟩
  case round =>
    obtain ⟨k, hk, rfl, rfl⟩ := hrel
    by_cases hlt : k < n
    · obtain ⟨a, c1, h2, h4⟩ := HR.out k hlt
      go_wp2
      go_round
      case rel => exact ⟨k + 1, by omega, by go_num, by go_num⟩
      case measure => simp [intOf]; omega
    · have hkn : k = n := by omega
      subst hkn
      go_wp2_with fail
      refine (grow_zero w).mono ?_
      rintro e w1 ⟨rfl, rfl⟩
      go_wp2_with fail
      go_loopw [6, 27] (fun t6 t27 wr => ∃ (i : Nat) (a' : Option Addr) (cp : Nat), i ≤ k ∧ t27 = .int .i64 i ∧ t6 = .slice a' 0 cp ∧ OwnG KBy 5 wr w.heap.size (.slice a' 0 cp) [] ∧ Below w.heap.size w wr) (fun _ t27 _ => k - (intOf t27).toNat)
      case atStart => exact ⟨0, none, 0, Nat.zero_le _, rfl, rfl, own_noneG KBy w w.heap.size 5, Below.refl _ _⟩
      case round =>
        obtain ⟨i, a', cp, hi, rfl, rfl, hown, hbel⟩ := hrel
        by_cases hlt : i < k
        · obtain ⟨a, c1, h2, h4⟩ := HR.out i hlt
          have hc2 : wr.cell? ⟨q, i, none⟩ = some (.slice a 0 c1) := (hbel.cell (p := ⟨q, i, none⟩) hq).trans h2
          have HA := hid' h4
          have HO1 := hid' hown
          have HB1 := hid' hbel
          have hz1 := hbel.size
          clear hown hbel h2 h4
          go_wp2_with (at_builtin; refine wpList_appG Try.tyBy _ rfl (.tmp 31) (.tmp 32) 22 rfl w.heap.size a' 0 cp 0 [] [] _ rfl rfl rfl HO1.out rfl (src_rowG Try.tyBy.1 0 c1 (by show 0 < 1; omega) rfl (RowG.nil _ _ _) HA.out) (by omega) hz1 ?_; intro a9 c9 w2 hown hgr hat)
          have HB2 := hid' (below_appG HB1.out HO1.out hz1 hgr)
          have HO2 := hid' hown
          clear hown hgr hat
          go_wp2_with fail
          go_roundw
          case rel => exact ⟨i + 1, a9, c9, by omega, by go_num, rfl, HO2.out, HB2.out⟩
          case measure => simp [intOf]; omega
        · have HO1 := hid' hown
          have HB1 := hid' hbel
          clear hown hbel
          go_wp2_with fail
          go_ret
          exact ⟨a', cp, rfl, HO1.out, HB1.out⟩

theorem rws_two {W : World} {a b : Option Addr} {n m c d : Nat} {zs bs : List Int} {t : TypeId} (hn : n = zs.length) (hm : m = bs.length) (ha : RowG KBy W a zs) (hb : RowG KBy W b bs) (hc : a = none → c = 0) (hd : b = none → d = 0) :
    Rws (W.alloc (.cells #[.slice a n c, .slice b m d] t)) W.heap.size [zs, bs] := by
  subst hn hm
  intro j hj
  match j, hj with
  | 0, _ => exact ⟨a, c, zs, rfl, by simp [go_sem], (row_by.1 ha).later (alloc_below W _), hc⟩
  | 1, _ => exact ⟨b, d, bs, rfl, by simp [go_sem], (row_by.1 hb).later (alloc_below W _), hd⟩

theorem cat_two (q c n m : Nat) (zs bs : List Int) (w : World) (hn : n = zs.length) (hm : m = bs.length) (hq : q < w.heap.size) (hR : Rws w q [zs, bs]) (hl : n + m ≤ 1000000) :
    Calls Try.prog 31 #[.slice (some ⟨q, 0, none⟩) 2 c] w fun e w' => ∃ a' c', e = .returned (.slice a' (n + m) c') ∧ OwnG KBy 5 w' w.heap.size (.slice a' (n + m) c') (zs ++ bs) ∧ Below w.heap.size w w' := by
  have hf : [zs, bs].flatten = zs ++ bs := by simp
  have hlen : [zs, bs].flatten.length = n + m := by rw [hf, List.length_append, hn, hm]
  by_cases h0 : n + m = 0
  · have e1 : zs = [] := List.length_eq_zero_iff.1 (by omega)
    have e2 : bs = [] := List.length_eq_zero_iff.1 (by omega)
    have en : n + m = 0 := h0
    rw [en, e1, e2]
    refine concat_zero q 2 c [zs, bs] w rfl (by omega) hq hR (fun x hx => ?_)
    rcases List.mem_cons.1 hx with rfl | hx
    · exact e1
    · rw [List.mem_singleton] at hx; subst hx; exact e2
  · refine (concat_any q 2 c [zs, bs] w rfl (by omega) hq hR (by rw [hlen]; omega) (by rw [hlen]; exact hl)).mono ?_
    rintro e w' ⟨g, cap, rfl, ho, hb⟩
    rw [hlen, hf] at ho
    exact ⟨_, cap, by rw [hlen], own_by.2 ho, hb⟩

end Go.Proofs.Ytfhlplpiojhhmaa
