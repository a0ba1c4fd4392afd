/-
  The specification's l1Bytes, l1Size and DrawFrame: some bytes, in a row of the call's own; the cursor lies on, nothing else turns.
-/
import Derived.Test.YtdcbmeiopfdkeaaWNew
import Derived.Test.YtdcbmeiopfdkeaaCRow
namespace Go.Proofs.Ytdcbmeiopfdkeaa
open Go.RowKit

theorem oct_nil : Oct [] := fun _ hz => absurd hz List.not_mem_nil
theorem Own.kp {c : Nat} {w w' : World} {B : Nat} {v : Value} {zs : List Int} (h : Own w B v zs) (k : Kp c w w') (hc : c < B) : Own w' B v zs := by
  refine ⟨h.1, ?_⟩
  rcases h.2 with h1 | ⟨g, cap, cur, hv, hg, hr, hr'⟩
  · exact Or.inl h1
  · refine Or.inr ⟨g, cap, cur, hv, hg, (k.blk g ?_ (by omega)).trans hr, hr'⟩
    rcases Nat.lt_or_ge g w.heap.size with hlt | hge
    · exact hlt
    · rw [Array.getElem?_eq_none hge] at hr; cases hr
theorem Kp.grown {c g : Nat} {w w1 w2 : World} (h : Kp c w w1) (r : w1.grownBy w2 (some g)) (hg : w.heap.size ≤ g) (hc : c < w.heap.size) : Kp c w w2 :=
  ⟨h.low.grown r (by have := h.big; omega) (fun k hk => by cases hk; omega), Nat.le_trans h.big r.size,
    fun b o hb hne => (r.cell_far ⟨b, o, none⟩ (Nat.lt_of_lt_of_le hb h.big) (by show some b ≠ some g; simp; omega)).trans (h.cel b o hb hne),
    fun b o hb hne => (r.frozen_far ⟨b, o, none⟩ (Nat.lt_of_lt_of_le hb h.big) (by show some b ≠ some g; simp; omega)).trans (h.frz b o hb hne),
    fun b hb hne => (r.block b (Nat.lt_of_lt_of_le hb h.big) (by show some b ≠ some g; simp; omega)).trans (h.blk b hb hne)⟩
theorem Cur.grown {W X : World} {c g : Nat} {a : Option Addr} {len cap : Nat} (h : Cur W c a len cap) (r : W.grownBy X (some g)) (hg : c < g) : Cur X c a len cap :=
  h.keep ((Below.refl _ W).grown r (by have := h.lt; omega) (fun k hk => by cases hk; omega))

set_option maxHeartbeats 2000000 in
theorem l1Bytes_any (c : Nat) (a : Option Addr) (len cap : Nat) (n : Nat) (hn : n ≤ 1000) (w : World) (hC : Cur w c a len cap) :
    Calls Try.prog 40 #[.pointer (some ⟨c, 0, none⟩), .int .i64 n] w fun e w' => (∃ g cp zs, zs.length = n ∧ Oct zs ∧ e = .returned (.slice (some ⟨g, 0, none⟩) n cp) ∧ Own w' w.heap.size (.slice (some ⟨g, 0, none⟩) n cp) zs) ∧ Cur w' c a len cap ∧ Kp c w w' := by
  have HC := hid' hC
  have hlt := hC.lt
  clear hC
  have HO := hid' (own_nil w w.heap.size (Nat.le_refl _))
  go_enter Try.func40, Try.ntmps40
  go_wp2
  go_loopw [5, 6] (fun t5 t6 wr => ∃ (g cp k : Nat) (zs : List Int), zs.length = k ∧ k ≤ n ∧ Oct zs ∧ t5 = .slice (some ⟨g, 0, none⟩) k cp ∧ t6 = .int .i64 k ∧ Own wr w.heap.size (.slice (some ⟨g, 0, none⟩) k cp) zs ∧ Cur wr c a len cap ∧ Kp c w wr) (fun _ t6 _ => n - (intOf t6).toNat)
  case atStart => exact ⟨w.heap.size, 0, 0, [], rfl, Nat.zero_le _, oct_nil, rfl, rfl, HO.out, HC.out.more _, Kp.more (Kp.refl _ _) hlt _⟩
  case round =>
    obtain ⟨g, cp, k, zs, hk, hkn, hoc, rfl, rfl, hown, hcur, hkp⟩ := hrel
    have HK := hid' (And.intro hk hoc)
    have HOw := hid' hown
    have HCr := hid' hcur
    have HKp := hid' hkp
    have hz := hkp.big
    clear hk hoc hown hcur hkp HO
    by_cases h : k < n
    · go_wp2_with fail
      refine (l1Byte_any c a len cap _ HCr.out).mono ?_
      rintro e w1 ⟨⟨x, x0, x9, rfl⟩, hC1, hK1⟩
      have HO1 := hid' (HOw.out.kp hK1 hlt)
      have HC1 := hid' hC1
      have HK1 := hid' (HKp.out.trans hK1)
      have hz1 := HK1.out.big
      have ex : x % 256 = x := by omega
      have HG := hid' (Own.lt HO1.out g rfl)
      clear hC1 hK1
      go_wp2_with (at_builtin; refine wpList_app _ rfl (.tmp 13) (.tmp 17) 22 rfl w.heap.size g k cp zs [x] _ _ rfl rfl HK.out.1.symm (HO1.out.alloc _) rfl (src_byt (zs := [x]) 1 (own_lit w1 w.heap.size x hz1).bytA (by simp)) (by show k + 1 ≤ _; omega) (by simp; omega) ?_; intro g2 c2 w2 o2 r2 t2)
      have HO2 := hid' o2
      have HC2 := hid' ((HC1.out.more _).grown r2 (by have := HG.out.1; omega))
      have HK2 := hid' ((HK1.out.more hlt _).grown r2 HG.out.1 hlt)
      clear o2 r2 t2
      go_wp2
      go_roundw
      case rel => exact ⟨g2, c2, k + 1, zs ++ [x], by rw [List.length_append, HK.out.1]; rfl, by omega, oct_app HK.out.2 (oct_one (by omega)), rfl, by go_num, HO2.out, HC2.out, HK2.out⟩
      case measure => simp [intOf]; omega
    · have e : k = n := by omega
      subst e
      go_wp2
      go_ret
      exact ⟨⟨g, cp, zs, HK.out.1, HK.out.2, rfl, HOw.out⟩, HCr.out, HKp.out⟩

set_option maxHeartbeats 1000000 in
theorem l1Size_any (a : Option Addr) (len cap : Nat) (w : World) (hl : len ≤ 1048576) :
    Calls Try.prog 41 #[.slice a len cap, .int .i64 200] w fun e w' => (∃ x : Int, 3 ≤ x ∧ x ≤ 200 ∧ e = .returned (.int .i64 x)) ∧ w = w' := by
  by_cases h : 3 + len / 12 > 200
  · have hd : (200 : Int) < 3 + (len : Int) / 12 := by omega
    go_enter Try.func41, Try.ntmps41
    go_wp2
    go_ret
    exact ⟨⟨200, by omega, by omega, rfl⟩, rfl⟩
  · have hd : ¬ (200 : Int) < 3 + (len : Int) / 12 := by omega
    go_enter Try.func41, Try.ntmps41
    go_wp2
    go_ret
    exact ⟨⟨3 + (len : Int) / 12, by omega, by omega, rfl⟩, rfl⟩

set_option maxHeartbeats 2000000 in
theorem drawFrame_any (a : Option Addr) (len cap : Nat) (w : World) (hB : Bytes w a len) (hl : len ≤ 1048576) :
    Calls Try.prog 13 #[.slice a len cap] w fun e w' => (∃ g cp zs, zs.length ≤ 20001 ∧ Oct zs ∧ e = .returned (.slice (some ⟨g, 0, none⟩) zs.length cp) ∧ Own w' w.heap.size (.slice (some ⟨g, 0, none⟩) zs.length cp) zs) ∧ Below w.heap.size w w' := by
  have HB := hid' hB
  clear hB
  go_enter Try.func13, Try.ntmps13
  go_wp2_with fail
  refine (l1New_any a len cap _ HB.out hl).mono ?_
  rintro e w1 ⟨rfl, hC1, hb1, hs1⟩
  have HC1 := hid' hC1
  clear hC1
  go_wp2_with fail
  refine (l1Once_any w.heap.size a len cap 30 _ HC1.out).mono ?_
  rintro e w2 ⟨⟨B, rfl⟩, hC2, hK2⟩
  have HC2 := hid' hC2
  have b2 : Below w.heap.size w w2 := hb1.trans hK2.low
  have hz2 := hK2.big
  clear hC2 hK2 hb1
  cases B
  · go_wp2_with fail
    refine (l1Size_any a len cap _ hl).mono ?_
    rintro e w3 ⟨⟨x, x0, x9, rfl⟩, rfl⟩
    go_wp2_with fail
    refine (l1Below_any w.heap.size a len cap x _ HC2.out).mono ?_
    rintro e w4 ⟨⟨y, y0, y9, rfl⟩, hC4, hK4⟩
    have y8 := y9 (by omega)
    obtain ⟨n, rfl⟩ := Int.eq_ofNat_of_zero_le y0
    have HC4 := hid' hC4
    have b4 : Below w.heap.size w w4 := b2.trans hK4.low
    have hz4 := hK4.big
    clear hC4 hK4 y9
    go_wp2_with fail
    refine (l1Bytes_any w.heap.size a len cap n (by omega) _ HC4.out).mono ?_
    rintro e w5 ⟨⟨g, cp, zs, hn, ho, rfl, hown⟩, _, hK5⟩
    have HO5 := hid' hown
    have HF := hid' (And.intro hn ho)
    have HB5 := hid' (b4.trans hK5.low)
    clear hown hn ho hK5
    go_wp2_with fail
    go_ret
    refine ⟨⟨g, cp, zs, by have := HF.out.1; omega, HF.out.2, by rw [HF.out.1]; rfl, ?_⟩, HB5.out⟩
    rw [HF.out.1]; exact HO5.out.mono (by omega)
  · go_wp2_with fail
    refine (l1Below_any w.heap.size a len cap 2 _ HC2.out).mono ?_
    rintro e w4 ⟨⟨y, y0, y9, rfl⟩, hC4, hK4⟩
    have y8 := y9 (by omega)
    obtain ⟨n, rfl⟩ := Int.eq_ofNat_of_zero_le y0
    have b4 : Below w.heap.size w w4 := b2.trans hK4.low
    have hz4 := hK4.big
    clear hC4 hK4 y9
    obtain ⟨i0, hi, hz0, hz1, hz2'⟩ := info_parts Try.infoU8
    go_wp2_with (refine wpList_make_full _ rfl (.tmp 10) (.tmp 10) 22 rfl w.heap.size 5 i0 (.int .u8 0) 1 Try.underlying22 hi hz0 hz1 .i64 .i64 _ _ (20000 + n) rfl rfl (by omega) (by omega) (by rw [hz2']; omega) (by unfold maxLen; omega) (by omega) ?_; intro w5 hown hgrow)
    have HO : Hid (Own w5 w.heap.size (.slice (some ⟨w4.heap.size, 0, none⟩) (20000 + n) (20000 + n)) (List.replicate (20000 + n) 0)) := by
      have e : (madeCells (Value.int .u8 0).cells ((20000 + n) * 1)).toList = List.replicate (20000 + n) (Value.int .u8 0) := by rw [Nat.mul_one]; exact toList_madeCells_one _ _
      rw [e] at hown
      unfold Hid Own; rw [List.map_replicate, List.length_replicate]; exact hown
    have HB5 := hid' (b4.grown hgrow (by omega) (fun k hk => by cases hk))
    clear hown hgrow
    go_wp2_with fail
    go_ret
    refine ⟨⟨w4.heap.size, 20000 + n, List.replicate (20000 + n) 0, by rw [List.length_replicate]; omega, fun z hz => by rw [List.eq_of_mem_replicate hz]; omega, by rw [List.length_replicate]; rfl, ?_⟩, HB5.out⟩
    rw [List.length_replicate]; exact HO.out

end Go.Proofs.Ytdcbmeiopfdkeaa
