/-
  The specification's l1Bytes, l1Size and DrawFrame: some bytes, in a row of the call's own; the cursor lies on, nothing else turns.
-/
import Derived.Test.YtfhlplpiojhhmaaWNew
import Derived.Test.YtfhlplpiojhhmaaCRow
namespace Go.Proofs.Ytfhlplpiojhhmaa
open Go.RowKit

theorem oct_nil : Oct [] := fun _ hz => absurd hz List.not_mem_nil
theorem Own.kp {c : Nat} {w w' : World} {B : Nat} {v : Value} {zs : List Int} (h : Own w B v zs) (k : Kp c w w') (hc : c < B) : Own w' B v zs := by
  refine ⟨h.1, ?_⟩
  rcases h.2 with h1 | ⟨g, cap, cur, hv, hg, hr, hr'⟩
  · exact Or.inl h1
  · refine Or.inr ⟨g, cap, cur, hv, hg, (k.blk g ?_ (by omega)).trans hr, hr'⟩
    rcases Nat.lt_or_ge g w.heap.size with hlt | hge
    · exact hlt
    · rw [Array.getElem?_eq_none hge] at hr; cases hr
theorem Kp.grown {c g : Nat} {w w1 w2 : World} (h : Kp c w w1) (r : w1.grownBy w2 (some g)) (hg : w.heap.size ≤ g) (hc : c < w.heap.size) : Kp c w w2 :=
  ⟨h.low.grown r (by have := h.big; omega) (fun k hk => by cases hk; omega), Nat.le_trans h.big r.size,
    fun b o hb hne => (r.cell_far ⟨b, o, none⟩ (Nat.lt_of_lt_of_le hb h.big) (by show some b ≠ some g; simp; omega)).trans (h.cel b o hb hne),
    fun b o hb hne => (r.frozen_far ⟨b, o, none⟩ (Nat.lt_of_lt_of_le hb h.big) (by show some b ≠ some g; simp; omega)).trans (h.frz b o hb hne),
    fun b hb hne => (r.block b (Nat.lt_of_lt_of_le hb h.big) (by show some b ≠ some g; simp; omega)).trans (h.blk b hb hne)⟩
theorem Cur.grown {W X : World} {c g : Nat} {a : Option Addr} {len cap : Nat} (h : Cur W c a len cap) (r : W.grownBy X (some g)) (hg : c < g) : Cur X c a len cap :=
  h.keep ((Below.refl _ W).grown r (by have := h.lt; omega) (fun k hk => by cases hk; omega))

set_option maxHeartbeats 2000000 in
theorem l1Bytes_any (c : Nat) (a : Option Addr) (len cap : Nat) (n : Nat) (hn : n ≤ 1000) (w : World) (hC : Cur w c a len cap) :
    Calls Try.prog 35 #[.pointer (some ⟨c, 0, none⟩), .int .i64 n] w fun e w' => (∃ g cp zs, zs.length = n ∧ Oct zs ∧ e = .returned (.slice (some ⟨g, 0, none⟩) n cp) ∧ Own w' w.heap.size (.slice (some ⟨g, 0, none⟩) n cp) zs) ∧ Cur w' c a len cap ∧ Kp c w w' := by
  have HC := hid' hC
  have hlt := hC.lt
  clear hC
  have HO := hid' (own_nil w w.heap.size (Nat.le_refl _))
  go_enter Try.func35, Try.ntmps35
  go_wp2
  go_loopw [5, 6] (fun t5 t6 wr => ∃ (g cp k : Nat) (zs : List Int), zs.length = k ∧ k ≤ n ∧ Oct zs ∧ t5 = .slice (some ⟨g, 0, none⟩) k cp ∧ t6 = .int .i64 k ∧ Own wr w.heap.size (.slice (some ⟨g, 0, none⟩) k cp) zs ∧ Cur wr c a len cap ∧ Kp c w wr) (fun _ t6 _ => n - (intOf t6).toNat)
  case atStart => exact ⟨w.heap.size, 0, 0, [], rfl, Nat.zero_le _, oct_nil, rfl, rfl, HO.out, HC.out.more _, Kp.more (Kp.refl _ _) hlt _⟩
  case round =>
    obtain ⟨g, cp, k, zs, hk, hkn, hoc, rfl, rfl, hown, hcur, hkp⟩ := hrel
    have HK := hid' (And.intro hk hoc)
    have HOw := hid' hown
    have HCr := hid' hcur
    have HKp := hid' hkp
    have hz := hkp.big
    clear hk hoc hown hcur hkp HO
    by_cases h : k < n
    · go_wp2_with fail
      refine (l1Byte_any c a len cap _ HCr.out).mono ?_
      rintro e w1 ⟨⟨x, x0, x9, rfl⟩, hC1, hK1⟩
      have HO1 := hid' (HOw.out.kp hK1 hlt)
      have HC1 := hid' hC1
      have HK1 := hid' (HKp.out.trans hK1)
      have hz1 := HK1.out.big
      have ex : x % 256 = x := by omega
      have HG := hid' (Own.lt HO1.out g rfl)
      clear hC1 hK1
      go_wp2_with (at_builtin; refine wpList_app _ rfl (.tmp 13) (.tmp 17) 22 rfl w.heap.size g k cp zs [x] _ _ rfl rfl HK.out.1.symm (HO1.out.alloc _) rfl (src_byt (zs := [x]) 1 (own_lit w1 w.heap.size x hz1).bytA (by simp)) (by show k + 1 ≤ _; omega) (by simp; omega) ?_; intro g2 c2 w2 o2 r2 t2)
      have HO2 := hid' o2
      have HC2 := hid' ((HC1.out.more _).grown r2 (by have := HG.out.1; omega))
      have HK2 := hid' ((HK1.out.more hlt _).grown r2 HG.out.1 hlt)
      clear o2 r2 t2
      go_wp2
      go_roundw
      case rel => exact ⟨g2, c2, k + 1, zs ++ [x], by rw [List.length_append, HK.out.1]; rfl, by omega, oct_app HK.out.2 (oct_one (by omega)), rfl, by go_num, HO2.out, HC2.out, HK2.out⟩
      case measure => simp [intOf]; omega
    · have e : k = n := by omega
      subst e
      go_wp2
      go_ret
      exact ⟨⟨g, cp, zs, HK.out.1, HK.out.2, rfl, HOw.out⟩, HCr.out, HKp.out⟩

end Go.Proofs.Ytfhlplpiojhhmaa
