/-
  The library's Grow of no row, and its Concat of rows of bytes: one new row that has all of them; nothing old turns.
-/
import Derived.Test.YtfhlplpiojhhmaaCApp
import Derived.Lib.AppendZeros
namespace Go.Proofs.Ytfhlplpiojhhmaa
open Go.RowKit

set_option maxHeartbeats 2000000 in
theorem grow_nil (n : Nat) (w : World) (h0 : 0 < n) (hl : n ≤ 1000000) :
    Calls Try.prog 39 #[.slice none 0 0, .int .i64 n] w fun e w' => ∃ cap, e = .returned (.slice (some ⟨w.heap.size, 0, none⟩) 0 cap) ∧ Own w' w.heap.size (.slice (some ⟨w.heap.size, 0, none⟩) 0 cap) [] ∧ Below w.heap.size w w' := by
  obtain ⟨i0, hi, hz0, hz1, hz2⟩ := info_parts Try.infoU8
  have hcap := grownCap_le_maxLen w n 0 5 (by unfold maxLen; omega)
  have hr := Lib.run_append_nil_zeros (P := Try.prog) w 22 3 22 5 i0 (.int .u8 0) .i64 .i64 Try.underlying22 Try.underlying3 hi hz0 n h0 (by omega) (by omega) (by rw [hz2]; omega)
  have hge := grownCap_ge w n 0 5
  generalize grownCap w n 0 5 = cap at *
  have HR := hid' hr
  have HC := hid' hcap
  have HGE := hid' hge
  clear hr hcap hge
  have HO : Hid (Own (w.drew.alloc (.cells (Builtin.zeroCells (Value.int .u8 0).cells n ++ Builtin.zeroCells (Value.int .u8 0).cells (cap - n)) 5)) w.heap.size (.slice (some ⟨w.heap.size, 0, none⟩) 0 cap) []) := by
    refine ⟨rfl, Or.inr ⟨w.heap.size, cap, _, rfl, Nat.le_refl _, heap_alloc_new w.drew _, Nat.zero_le _, HC.out, ?_, by simp⟩⟩
    have := HGE.out
    simp [size_zeroCells, Value.cells]; omega
  have HB : Hid (Below w.heap.size w (w.drew.alloc (.cells (Builtin.zeroCells (Value.int .u8 0).cells n ++ Builtin.zeroCells (Value.int .u8 0).cells (cap - n)) 5))) := (Below.refl _ w).drew.alloc (Nat.le_refl _) _
  go_enter Try.func39, Try.ntmps39
  go_wp2_with (at_builtin; refine Lib.wpList_append_run _ rfl (.tmp 20) (.tmp 21) 22 3 rfl _ _ rfl rfl _ _ HR.out ?_)
  go_ret
  exact ⟨cap, rfl, HO.out, HB.out⟩

/-- The rows zss lie one behind the other in the block q. -/
def Rws (w : World) (q : Nat) (zss : List (List Int)) : Prop := ∀ j, j < zss.length → ∃ a c zs, zss[j]? = some zs ∧ w.cell? ⟨q, j, none⟩ = some (.slice a zs.length c) ∧ Byt w a zs ∧ (a = none → c = 0)
theorem Rws.later {w w' : World} {q : Nat} {zss : List (List Int)} (h : Rws w q zss) (hq : q < w.heap.size) (hb : Below w.heap.size w w') : Rws w' q zss := fun j hj => by
  obtain ⟨a, c, zs, h1, h2, h3, h4⟩ := h j hj
  exact ⟨a, c, zs, h1, (hb.cell (p := ⟨q, j, none⟩) hq).trans h2, h3.later hb, h4⟩
def flt (zss : List (List Int)) (k : Nat) : List Int := (zss.take k).flatten
theorem flat_take (zss : List (List Int)) (k : Nat) (zs : List Int) (h : zss[k]? = some zs) : flt zss (k + 1) = flt zss k ++ zs := by
  unfold flt
  have hk : k < zss.length := by rcases Nat.lt_or_ge k zss.length with h1 | h1; exact h1; rw [List.getElem?_eq_none h1] at h; cases h
  have e : zss[k] = zs := by rw [List.getElem?_eq_getElem hk] at h; simpa using h
  rw [List.take_succ_eq_append_getElem hk, e]; simp
theorem flat_le (zss : List (List Int)) (k : Nat) : (flt zss k).length ≤ zss.flatten.length := by
  unfold flt
  have e : zss.flatten = (zss.take k).flatten ++ (zss.drop k).flatten := by rw [← List.flatten_append, List.take_append_drop]
  rw [e, List.length_append]; omega

set_option maxHeartbeats 4000000 in
theorem concat_any (q n c : Nat) (zss : List (List Int)) (w : World) (hn : zss.length = n) (hn9 : n ≤ 1000) (hq : q < w.heap.size) (hR : Rws w q zss) (h0 : 0 < zss.flatten.length) (hl : zss.flatten.length ≤ 1000000) :
    Calls Try.prog 31 #[.slice (some ⟨q, 0, none⟩) n c] w fun e w' => ∃ g cap, e = .returned (.slice (some ⟨g, 0, none⟩) zss.flatten.length cap) ∧ Own w' w.heap.size (.slice (some ⟨g, 0, none⟩) zss.flatten.length cap) zss.flatten ∧ Below w.heap.size w w' := by
  have HN := hid' hn
  have HR := hid' hR
  have HL := hid' hl
  have H0 := hid' h0
  clear hn hR hl h0
  go_enter Try.func31, Try.ntmps31
  go_wp2
  go_loop [3, 11] (fun t3 t11 => ∃ k : Nat, k ≤ n ∧ t11 = .int .i64 k ∧ t3 = .int .i64 ((flt zss k).length : Int)) (fun _ t11 => n - (intOf t11).toNat)
  case atStart => exact ⟨0, Nat.zero_le _, rfl, by simp [flt]⟩
  case round =>
    obtain ⟨k, hk, rfl, rfl⟩ := hrel
    have hle := flat_le zss k
    have hle2 := HL.out
    by_cases hlt : k < n
    · obtain ⟨a, c1, zs, h1, h2, h3, h4⟩ := HR.out k (by rw [HN.out]; exact hlt)
      have hf := flat_take zss k zs h1
      have hle3 := flat_le zss (k + 1)
      have HF : Hid ((flt zss (k + 1)).length = (flt zss k).length + zs.length) := by unfold Hid; rw [hf, List.length_append]
      have hb2 : (flt zss k).length + zs.length ≤ 1000000 := by have := HF.out; omega
      clear hf h3 h4 h1 hle3 hle2
      generalize (flt zss k).length = L at *
      go_wp2
      go_round
      case rel => exact ⟨k + 1, by omega, by go_num, by rw [HF.out]; go_num⟩
      case measure => simp [intOf]; omega
    · have hkn : k = n := by omega
      subst hkn
      have ht : flt zss k = zss.flatten := by unfold flt; rw [List.take_of_length_le (by have := HN.out; omega)]
      rw [ht]
      have hp := H0.out
      clear ht hle
      generalize hL : zss.flatten.length = L at *
      have HLL := hid' hL
      clear hL
      go_wp2_with fail
      refine (grow_nil L w hp (by omega)).mono ?_
      rintro e w1 ⟨c0, rfl, ho, hb⟩
      have HR1 := hid' (HR.out.later hq hb)
      have HO := hid' ho
      have HB := hid' hb
      have hz := hb.size
      clear ho hb
      go_wp2_with fail
      go_loopw [6, 27] (fun t6 t27 wr => ∃ (i g cp : Nat), i ≤ k ∧ t27 = .int .i64 i ∧ t6 = .slice (some ⟨g, 0, none⟩) ((flt zss i).length) cp ∧ Own wr w.heap.size (.slice (some ⟨g, 0, none⟩) ((flt zss i).length) cp) (flt zss i) ∧ Below w.heap.size w wr) (fun _ t27 _ => k - (intOf t27).toNat)
      case atStart => exact ⟨0, w.heap.size, c0, Nat.zero_le _, rfl, rfl, HO.out, HB.out⟩
      case round =>
        obtain ⟨i, g, cp, hi, rfl, rfl, hown, hbel⟩ := hrel
        have hle := flat_le zss i
        by_cases hlt : i < k
        · obtain ⟨a, c1, zs, h1, h2, h3, h4⟩ := HR.out i (by rw [HN.out]; exact hlt)
          have hc2 : wr.cell? ⟨q, i, none⟩ = some (.slice a zs.length c1) := (hbel.cell (p := ⟨q, i, none⟩) hq).trans h2
          have HS := hid' (h3.later hbel)
          have HA := hid' h4
          have hf := flat_take zss i zs h1
          have hle3 := flat_le zss (i + 1)
          have HF := hid' hf
          have hb2 : (flt zss i).length + zs.length ≤ 1000000 := by have := HLL.out; rw [hf, List.length_append] at hle3; omega
          have HO1 := hid' hown
          have HB1 := hid' hbel
          have hz1 := hbel.size
          clear hown hbel h1 h2 h3 h4 hf hle3 hle HO HB HR1 HR
          go_wp2_with (at_builtin; refine wpList_app _ rfl (.tmp 31) (.tmp 32) 22 rfl w.heap.size g _ cp _ zs _ _ rfl rfl rfl HO1.out rfl (src_byt _ HS.out HA.out) (by omega) hz1 ?_; intro h c w2 hown hgr hat)
          have HB2 := hid' (below_app HB1.out HO1.out hz1 hgr)
          rw [← HF.out] at hown
          have HO2 := hid' hown
          clear hown hgr hat
          go_wp2_with fail
          go_roundw
          case rel => exact ⟨i + 1, h, c, by omega, by go_num, by rw [HF.out, List.length_append], by rw [HF.out, List.length_append, ← HF.out]; exact HO2.out, HB2.out⟩
          case measure => simp [intOf]; omega
        · have hik : i = k := by omega
          subst hik
          have ht : flt zss i = zss.flatten := by unfold flt; rw [List.take_of_length_le (by have := HN.out; omega)]
          have HO1 : Hid (Own wr w.heap.size (.slice (some ⟨g, 0, none⟩) L cp) zss.flatten) := by rw [ht, HLL.out] at hown; exact hown
          have HB1 := hid' hbel
          rw [ht, HLL.out]
          clear hown hbel hle ht
          go_wp2_with fail
          go_ret
          refine ⟨g, cp, ?_, ?_, HB1.out⟩
          · rw [HLL.out]; rfl
          · rw [HLL.out]; exact HO1.out

end Go.Proofs.Ytfhlplpiojhhmaa
