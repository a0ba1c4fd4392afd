/-
  For every code: the bytes that are drawn come back of their frame; cut anywhere it is torn; with one bit turned behind its number it is bad; a text comes back; the sums are one, as the law FnFramed asks.
-/
import Derived.Test.YtdcbmeiopfdkeaaWBytes
import Derived.Test.YtdcbmeiopfdkeaaCTxM
import Derived.Test.YtdcbmeiopfdkeaaCUnI
import Derived.Test.YtdcbmeiopfdkeaaCGetT
import Derived.Test.YtdcbmeiopfdkeaaCEq
import Derived.Deep.RegionHeld3
namespace Go.Proofs.Ytdcbmeiopfdkeaa
open Go.RowKit

set_option maxHeartbeats 1000000 in
theorem at_any (a : Option Addr) (len cap : Nat) (i : Nat) (hi : i ≤ 10) (w : World) (hB : Bytes w a len) (hl : len ≤ 1048576) :
    Calls Try.prog 17 #[.slice a len cap, .int .i64 i] w fun e w' => (∃ x : Nat, x ≤ 255 ∧ e = .returned (.int .i64 x)) ∧ w = w' := by
  by_cases h : i < len
  · obtain ⟨p, o, v, rfl, hp, cv, v0, v9⟩ := hB i h
    obtain ⟨x, rfl⟩ := Int.eq_ofNat_of_zero_le v0
    clear hB
    go_enter Try.func17, Try.ntmps17
    go_wp2
    go_ret
    exact ⟨⟨x, by omega, rfl⟩, rfl⟩
  · clear hB
    go_enter Try.func17, Try.ntmps17
    go_wp2
    go_ret
    exact ⟨⟨(i * 31 + len * 7) % 256, by omega, by go_num⟩, rfl⟩

theorem Bytes.below {w w' : World} {a : Option Addr} {len : Nat} (h : Bytes w a len) (b : Below w.heap.size w w') : Bytes w' a len := fun j hj => by
  obtain ⟨p, o, v, ha, hp, cv, v0, v9⟩ := h j hj
  exact ⟨p, o, v, ha, Nat.lt_of_lt_of_le hp b.size, (b.cell hp).trans cv, v0, v9⟩
theorem byt_take {w : World} {a : Option Addr} {zs : List Int} (h : Byt w a zs) (k : Nat) : Byt w a (zs.take k) := fun j hj => by
  rw [List.length_take] at hj
  obtain ⟨p, o, z, ha, hp, hc, hz⟩ := h j (by omega)
  exact ⟨p, o, z, ha, hp, hc, by rw [List.getElem?_take, if_pos (by omega)]; exact hz⟩
theorem frmB_oct (zs : List Int) (h : Oct zs) : Oct (frmB zs) := by
  unfold frmB
  split
  · unfold frm0
    refine oct_app (oct_app (numB_oct _) h) ?_
    intro z hz
    unfold lit at hz
    simp at hz
    omega
  · exact oct_nil

theorem own_turn {w : World} {B g n cap : Nat} {zs : List Int} (h : Own w B (.slice (some ⟨g, 0, none⟩) n cap) zs) (hn : n = zs.length) (j : Nat) (hj : j < n) :
    ∃ c, zs[j]? = some c ∧ w.cell? ⟨g, j, none⟩ = some (.int .u8 c) ∧ w.frozen? ⟨g, j, none⟩ = false ∧ ∀ v, Own (w.setCell ⟨g, j, none⟩ (.int .u8 v)) B (.slice (some ⟨g, 0, none⟩) n cap) (zs.set j v) := by
  subst hn
  refine ⟨zs[j], List.getElem?_eq_getElem hj, ?_, World.ownsRow.frozenAt h j, fun v => ?_⟩
  · rw [World.ownsRow.cellAt h j (by omega), List.getElem?_map, List.getElem?_eq_getElem hj]; rfl
  · have e := (World.ownsRow.stored h j (.int .u8 v)).1
    rw [← List.map_set] at e
    unfold Own
    rw [List.length_set]
    exact e

theorem pow8 : ∀ t : Fin 8, (2 : Int) ^ t.val % 256 = 2 ^ t.val := by decide
theorem oct_set {zs : List Int} (h : Oct zs) (j : Nat) {v : Int} (hv : 0 ≤ v ∧ v ≤ 255) : Oct (zs.set j v) := fun z hz => by
  rcases List.mem_or_eq_of_mem_set hz with h' | rfl
  · exact h z h'
  · exact hv

set_option maxRecDepth 10000 in
set_option maxHeartbeats 4000000 in
theorem lawFramed (a : Option Addr) (len cap : Nat) (w : World) (hB : Bytes w a len) (hl : len ≤ 1048576) :
    Calls Try.prog 4 #[.slice a len cap] w fun e w' => e = .returned (.bool true) ∧ Below w.heap.size w w' := by
  have HBy : Hid (Bytes w a len) := hB
  clear hB
  have hbig : ∀ wx : World, Calls Try.prog 9 #[.slice a len cap] wx fun e w' => e = .returned (.bool false) ∧ wx = w' := fun wx => by
    have d : decide ((1048576 : Int) < (len : Int)) = false := decide_eq_false (by omega)
    go_enter Try.func9, Try.ntmps9
    go_wp2
    go_ret
    exact ⟨rfl, rfl⟩
  have HG : Hid (∀ wx : World, _) := hbig
  clear hbig
  go_enter Try.func4, Try.ntmps4
  go_wp2_with fail
  refine (HG.out _).mono ?_
  rintro e w0 ⟨rfl, rfl⟩
  go_wp2_with fail
  refine (drawFrame_any a len cap _ HBy.out hl).mono ?_
  rintro e w1 ⟨⟨gb, cb, zs, hzl, hoc, rfl, hown⟩, hb1⟩
  have HO1 := hid' hown
  have HB1 := hid' hb1
  have hz1 := hb1.size
  have hgb := (Own.lt hown gb rfl)
  have HFr := hid' (iFrame_any (some ⟨gb, 0, none⟩) cb zs w1 hown.bytA hoc (by omega) (by simp))
  have Hoc := hid' hoc
  obtain ⟨L, hL⟩ : ∃ L, L = zs.length := ⟨_, rfl⟩
  have HL := hid' hL
  rw [← hL] at hzl HO1 HFr ⊢
  clear hown hb1 hoc hL
  go_wp2_with fail
  refine HFr.out.mono ?_
  rintro e w2 ⟨gf, cf, rfl, ho2, hb2⟩
  have HB2 := hid' (HB1.out.trans (hb2.mono hz1))
  have HO1' := hid' (HO1.out.later hb2)
  have HO2 := hid' ho2
  have hz2 := hb2.size
  clear HO1 ho2 hb2 HFr
  by_cases hbg : 20000 < L
  · have e0 : (frmB zs).length = 0 := by rw [frmB_no (by have := HL.out; omega)]; rfl
    rw [e0]
    clear e0
    go_wp2_with fail
    go_ret
    exact ⟨rfl, HB2.out⟩
  · have hL2 : L ≤ 20000 := by omega
    obtain ⟨hd, hhd⟩ : ∃ hd, hd = (numB (u64 (L : Int))).length := ⟨_, rfl⟩
    have h10 := numB_ten (u64 (L : Int)) (u64_lt _)
    have hp0 := numB_pos (u64 (L : Int))
    rw [← hhd] at h10 hp0
    have HF : Hid ((frmB zs).length = hd + L + 4) := by
      refine hid' ?_
      rw [frmB_ok (by have := HL.out; omega), hhd, HL.out]; simp [frm0, lit_len, Nat.add_assoc]
    have HHd := hid' hhd
    clear hbg hhd
    rw [HF.out] at HO2 ⊢
    obtain ⟨F, hF⟩ : ∃ F, F = hd + L + 4 := ⟨_, rfl⟩
    have hF9 : F ≤ 20014 := by omega
    have hF0 : 0 < F := by omega
    rw [← hF] at HO2 HF ⊢
    have HFe := hid' hF
    have d1 : decide ((20000 : Int) < (L : Int)) = false := decide_eq_false (by omega)
    have hgf := (Own.lt HO2.out gf rfl)
    have HZF := hid' HF.out
    clear hF
    have HL0 := hid' (own_nil w2 w1.heap.size hz2)
    have HQ : Hid (Src Try.prog 1 22 (.slice (some ⟨gf, 0, none⟩) F cf) (frmB zs).length ((frmB zs).map (Value.int .u8)) (w2.alloc (.cells #[] 5))) := by
      rw [← HF.out]; exact src_byt (zs := frmB zs) cf (HO2.out.alloc _).bytA (by simp)
    go_wp2_with (at_builtin; first
      | (refine wpList_app _ rfl (.tmp 28) (.tmp 29) 22 rfl w1.heap.size w2.heap.size 0 0 [] (frmB zs) (.slice (some ⟨w2.heap.size, 0, none⟩) 0 0) (.slice (some ⟨gf, 0, none⟩) F cf) rfl rfl rfl HL0.out rfl HQ.out (by have := HF.out; omega) (by simp; omega) ?_; intro h3 c3 w3 o3 r3 t3; rw [HF.out, Nat.zero_add] at o3 ⊢; have HO3 := hid' o3; have hw3 : w1.heap.size ≤ w3.heap.size := Nat.le_trans hz2 (Nat.le_trans (by simp) r3.size); have HR3 := hid' r3; have HT3 := hid' t3; clear o3 r3 t3)
      | (refine wpList_app _ rfl (.tmp 30) (.tmp 31) 22 rfl w1.heap.size h3 F c3 ([] ++ frmB zs) [7] _ _ rfl rfl (by rw [List.nil_append, HF.out]) (HO3.out.alloc _) rfl (src_byt (zs := [7]) 1 (own_lit w3 w1.heap.size 7 hw3).bytA (by simp)) (by show F + 1 ≤ _; omega) (by simp; omega) ?_; intro h4 c4 w4 o4 r4 t4))
    have eL : ([] ++ frmB zs ++ [7]).length = F + 1 := by rw [List.nil_append, List.length_append, HF.out]; rfl
    have hB3 : Below w.heap.size w w3 := below_app (HB2.out.alloc (by omega) _) (HL0.out.mono hz1) (by simp; omega) HR3.out
    have hB4 := hid' (below_app (hB3.alloc (by omega) _) ((HO3.out.alloc _).mono hz1) (by simp; omega) r4)
    have o4' : Own w4 w1.heap.size (.slice (some ⟨h4, 0, none⟩) (F + 1) c4) ([] ++ frmB zs ++ [7]) := o4
    have HO4 := hid' o4'
    have g3 : h3 = w2.heap.size ∨ h3 = w2.heap.size + 1 := by rcases HT3.out with h | h <;> (try simp at h) <;> omega
    have hBf4 := hid' (Byt.far (Byt.more (Byt.far (Byt.more HO2.out.bytA _) HR3.out (by omega)) _) r4 (show gf ≠ h3 by omega))
    have hBb4 := hid' (Byt.far (Byt.more (Byt.far (Byt.more HO1'.out.bytA _) HR3.out (by omega)) _) r4 (show gb ≠ h3 by omega))
    have HOf := hid' (frmB_oct zs Hoc.out)
    have hz4 : w1.heap.size ≤ w4.heap.size := Nat.le_trans hw3 (Nat.le_trans (by simp) r4.size)
    clear hB3 o4 o4' r4 t4 g3
    have key := iUnframe_all (some ⟨h4, 0, none⟩) c4 ([] ++ frmB zs ++ [7]) 0 w4 HO4.out.bytA (oct_app (oct_app oct_nil HOf.out) (oct_one (by omega))) (Own.caps HO4.out).1 ⟨by rw [eL]; omega, (Own.caps HO4.out).2⟩ (by rw [eL]; omega)
    rw [eL, List.nil_append, uf_frame zs (by have := HL.out; omega) [7]] at key
    refine key.mono ?_
    clear key eL
    rintro e w5 ⟨gx, cx, rfl, hox, hb5⟩
    have hB5 := hid' (hB4.out.trans (hb5.mono hB4.out.size))
    have hBf5 := hid' (hBf4.out.later hb5)
    have hBb5 := hid' (hBb4.out.later hb5)
    have HOx := hid' hox
    have hz5 := hb5.size
    have key := sameBytes_any (some ⟨gx, 0, none⟩) (some ⟨gb, 0, none⟩) cx cb zs zs w5 (Own.bytA hox) hBb5.out (by have := HL.out; omega) (by have := HL.out; omega)
    rw [eqL_same] at key
    simp only [← HL.out, HF.out] at key ⊢
    have HKs := hid' key
    clear key hox hb5 hB4 hBf4 hBb4
    go_wp2_with fail
    refine HKs.out.mono ?_
    rintro e w6 ⟨rfl, hb6⟩
    have hB6 := hid' (hB5.out.trans (hb6.mono hB5.out.size))
    have hBf6 := hid' (hBf5.out.later hb6)
    have hBb6 := hid' (hBb5.out.later hb6)
    have HBy6 : Hid (Bytes w6 a len) := HBy.out.below hB6.out
    have hz6 := hb6.size
    clear hb6 hB5 hBf5 hBb5 HKs
    go_wp2_with fail
    refine (at_any a len cap 2 (by omega) _ HBy6.out hl).mono ?_
    rintro e w7 ⟨⟨x2, x29, rfl⟩, rfl⟩
    go_wp2_with fail
    refine (at_any a len cap 3 (by omega) _ HBy6.out hl).mono ?_
    rintro e w7 ⟨⟨x3, x39, rfl⟩, rfl⟩
    obtain ⟨ct, hct⟩ : ∃ ct, ct = (x2 * 256 + x3) % F := ⟨_, rfl⟩
    have hctF : ct < F := by rw [hct]; exact Nat.mod_lt _ hF0
    have hce : ((x2 : Int) * 256 + (x3 : Int)) % (F : Int) = (ct : Int) := by rw [hct]; push_cast; rfl
    have HCe := hid' hct
    clear hct
    have hcf := (Own.caps HO2.out).1
    have HCf := hid' (Own.caps HO2.out).2
    rw [HF.out] at hcf
    have hccf : (ct : Int) ≤ (cf : Int) := by omega
    have key := iUnframe_all (some ⟨gf, 0, none⟩) cf ((frmB zs).take ct) 0 w6 (byt_take hBf6.out ct) (fun z hz => HOf.out z (List.mem_of_mem_take hz)) (by rw [List.length_take]; omega) ⟨by rw [List.length_take]; omega, HCf.out⟩ (by rw [List.length_take]; omega)
    have elt : ((frmB zs).take ct).length = ct := by rw [List.length_take, HF.out]; omega
    rw [elt] at key
    have HKc := hid' key
    clear key elt
    have HSpl : Hid (∃ nx cd, (uf ((frmB zs).take ct) 0 = ⟨[], nx, cd⟩) ∧ ((ct ≠ 0 ∧ cd = 2) ∨ (ct = 0 ∧ cd = 1))) := by
      rcases Nat.eq_zero_or_pos ct with h | h
      · subst h
        exact ⟨0, 1, by rw [List.take_zero]; exact uf_end (zs := []), Or.inr ⟨rfl, rfl⟩⟩
      · exact ⟨0, 2, uf_cut zs (by have := HL.out; omega) ct h (by rw [HF.out]; exact hctF), Or.inl ⟨by omega, rfl⟩⟩
    go_wp2_with fail
    refine HKc.out.mono ?_
    rintro e w7 ⟨gc, cc, rfl, _, hb7⟩
    obtain ⟨nx, cd, hu, hcd⟩ := HSpl.out
    rw [hu]
    have hB7 := hid' (hB6.out.trans (hb7.mono hB6.out.size))
    have hBf7 := hid' (hBf6.out.later hb7)
    have hBb7 := hid' (hBb6.out.later hb7)
    have HBy7 : Hid (Bytes w7 a len) := HBy.out.below hB7.out
    have hz7 := hb7.size
    clear hb7 hB6 hBf6 hBb6 HBy6 hu HKc HSpl
    have hN : ∀ wx : World, Calls Try.prog 18 #[.int .i64 L] wx fun e w' => ∃ a cap, e = .returned (.slice a hd cap) ∧ Below wx.heap.size wx w' := fun wx => (sPutNum_any L wx).mono fun e w' ⟨a, cap, he, _, hb⟩ => ⟨a, cap, by rw [he, HHd.out], hb⟩
    have HN := hid' hN
    clear hN
    have hcd' : ((0 : Int) < (ct : Int) ∧ ((ct : Int) == 0) = false) ∧ cd = 2 ∨ ct = 0 ∧ cd = 1 := by
      rcases hcd with ⟨h, e⟩ | h
      · exact Or.inl ⟨⟨by omega, by rw [beq_eq_false_iff_ne]; omega⟩, e⟩
      · exact Or.inr h
    clear hcd
    rcases hcd' with ⟨⟨hc1, hc2⟩, rfl⟩ | ⟨rfl, rfl⟩
    all_goals
      go_wp2_with fail
      refine (HN.out _).mono ?_
      rintro e w8 ⟨an, cn, rfl, hb8⟩
      have hz8 : w1.heap.size ≤ w8.heap.size := by have := hb8.size; omega
      have hB8 := hid' (hB7.out.trans (hb8.mono hB7.out.size))
      have hBf8 := hid' (hBf7.out.later hb8)
      have hBb8 := hid' (hBb7.out.later hb8)
      have HBy8 : Hid (Bytes w8 a len) := HBy.out.below hB8.out
      clear hb8 hB7 hBf7 hBb7 HBy7 HN
      go_wp2_with fail
      refine (at_any a len cap 4 (by omega) _ HBy8.out hl).mono ?_
      rintro e w9 ⟨⟨x4, x49, rfl⟩, rfl⟩
      go_wp2_with fail
      refine (at_any a len cap 5 (by omega) _ HBy8.out hl).mono ?_
      rintro e w9 ⟨⟨x5, x59, rfl⟩, rfl⟩
      obtain ⟨q, hq⟩ : ∃ q, q = (x4 * 256 + x5) % (8 * (L + 4)) := ⟨_, rfl⟩
      have hq9 : q < 8 * (L + 4) := by rw [hq]; exact Nat.mod_lt _ (by omega)
      have hqe : ((x4 : Int) * 256 + (x5 : Int)) % (8 * ((F : Int) - (hd : Int))) = (q : Int) := by
        have e1 : (8 * ((F : Int) - (hd : Int))) = ((8 * (L + 4) : Nat) : Int) := by have := HFe.out; omega
        rw [e1, hq]; push_cast; rfl
      clear hq
      have hFhd : hd + 4 ≤ F := by have := HFe.out; omega
      obtain ⟨j, hj⟩ : ∃ j, j = hd + q / 8 := ⟨_, rfl⟩
      obtain ⟨t, ht⟩ : ∃ t, t = q % 8 := ⟨_, rfl⟩
      have hj1 : hd ≤ j := by omega
      have hj2 : j < F := by have := HFe.out; omega
      have ht8 : t < 8 := by omega
      have hkj : (8 * (hd : Int) + (q : Int)) / 8 = (j : Int) := by omega
      have hkt : (8 * (hd : Int) + (q : Int)) % 8 = (t : Int) := by omega
      clear hj ht
      have HQ8 : Hid (Src Try.prog 1 22 (.slice (some ⟨gf, 0, none⟩) F cf) (frmB zs).length ((frmB zs).map (Value.int .u8)) (w8.alloc (.cells #[] 5))) := by
        rw [← HF.out]; exact src_byt (zs := frmB zs) cf (Byt.more hBf8.out _) (by simp)
      have HL8 := hid' (own_nil w8 w8.heap.size (Nat.le_refl _))
      go_wp2_with (at_builtin; refine wpList_app _ rfl (.tmp 101) (.tmp 102) 22 rfl w8.heap.size w8.heap.size 0 0 [] (frmB zs) (.slice (some ⟨w8.heap.size, 0, none⟩) 0 0) (.slice (some ⟨gf, 0, none⟩) F cf) rfl rfl rfl HL8.out rfl HQ8.out (by have := HF.out; omega) (by simp) ?_; intro h9 c9 w9 o9 r9 t9; rw [HF.out, Nat.zero_add] at o9 ⊢; rw [List.nil_append] at o9; obtain ⟨c, hcj, ce, cf9, hst⟩ := own_turn o9 HF.out.symm j hj2; have HC := hid' hcj; have HST := hid' hst; have HC9 := hid' (Own.caps o9); have HG9 := hid' (Own.lt o9 h9 rfl).1; have HR9 := hid' r9; clear o9 r9 t9 hcj hst)
      rw [pow8 ⟨t, ht8⟩]
      obtain ⟨v, hv⟩ : ∃ v, v = bits .xor .u8 c (2 ^ t) := ⟨_, rfl⟩
      rw [← hv]
      obtain ⟨hne, hv0, hv9⟩ := turn_byte c (HOf.out c (List.mem_of_getElem? HC.out)) t ht8
      rw [← hv] at hne hv0 hv9
      clear hv
      have hb10 : Below w8.heap.size w8 (w9.setCell ⟨h9, j, none⟩ (.int .u8 v)) := (below_app ((Below.refl _ w8).alloc (Nat.le_refl _) _) HL8.out (by simp) HR9.out).setCell HG9.out _
      have ho10 := HST.out v
      obtain ⟨w10, hw10⟩ : ∃ x, x = w9.setCell ⟨h9, j, none⟩ (.int .u8 v) := ⟨_, rfl⟩
      rw [← hw10] at ho10 hb10 ⊢
      clear hw10 HST HR9 HL8 HQ8 ce cf9 HO4 HOx
      have hB10 := hid' (hB8.out.trans (hb10.mono hB8.out.size))
      have hBb10 := hid' (hBb8.out.later hb10)
      have key := iUnframe_all (some ⟨h9, 0, none⟩) c9 ((frmB zs).set j v) 0 w10 ho10.bytA (oct_set HOf.out j ⟨hv0, hv9⟩) (by rw [List.length_set]; exact HC9.out.1) ⟨by rw [List.length_set, HF.out]; omega, HC9.out.2⟩ (by rw [List.length_set, HF.out]; omega)
      rw [List.length_set, HF.out, uf_turn zs (by have := HL.out; omega) Hoc.out j v c (by rw [← HL.out, ← HHd.out]; exact hj1) HC.out ⟨hv0, hv9⟩ hne] at key
      refine key.mono ?_
      clear key ho10 hb10 hB8 hBb8 hBf8 HBy8
      rintro e w11 ⟨gt, ct', rfl, _, hb11⟩
      have hB11 := hid' (hB10.out.trans (hb11.mono hB10.out.size))
      have hBb11 := hid' (hBb10.out.later hb11)
      clear hb11 hB10 hBb10
      have hcv := conv_str w11 (some ⟨gb, 0, none⟩) L cb zs HL.out hBb11.out
      go_wp2_with fail
      refine (iPutText_any (strOf zs) _ (by rw [strOf_size zs Hoc.out]; have := HL.out; omega)).mono ?_
      rintro e w12 ⟨ap, cp, rfl, hop, hb12⟩
      have eT := txtB_strOf zs Hoc.out
      obtain ⟨T, hT⟩ : ∃ T, T = (txtB (strOf zs)).length := ⟨_, rfl⟩
      have hT9 : T ≤ 20010 := by
        rw [hT, eT, List.length_append, ← HL.out, ← HHd.out]; omega
      have key := iGetText_all ap cp (txtB (strOf zs)) 0 w12 hop.bytA (by rw [eT]; exact oct_app (numB_oct _) Hoc.out) (Own.caps hop).1 ⟨by rw [← hT]; omega, (Own.caps hop).2⟩
      rw [gt_back zs Hoc.out (by have := HL.out; omega), ← hT] at key
      rw [← hT]
      have HKt := hid' key
      have HT := hid' hT
      have hB12 := hid' (hB11.out.trans (hb12.mono hB11.out.size))
      have hBb12 := hid' (hBb11.out.later hb12)
      clear key hT eT hop hb12 hB11 hBb11 hcv
      go_wp2_with fail
      refine HKt.out.mono ?_
      rintro e w13 ⟨rfl, hb13⟩
      have hB13 := hid' (hB12.out.trans (hb13.mono hB12.out.size))
      have hBb13 := hid' (hBb12.out.later hb13)
      clear hb13 hB12 hBb12 HKt
      have hcv := conv_str w13 (some ⟨gb, 0, none⟩) L cb zs HL.out hBb13.out
      go_wp2_with fail
      refine (iPutText_any (strOf zs) _ (by rw [strOf_size zs Hoc.out]; have := HL.out; omega)).mono ?_
      rintro e w14 ⟨ap', cp', rfl, _, hb14⟩
      rw [← HT.out]
      have hB14 := hid' (hB13.out.trans (hb14.mono hB13.out.size))
      have hBb14 := hid' (hBb13.out.later hb14)
      clear hb14 hB13 hBb13 hcv
      have key1 := iSum_any (some ⟨gb, 0, none⟩) cb zs w14 hBb14.out Hoc.out (by have := HL.out; omega)
      have key2 := sSum_any (some ⟨gb, 0, none⟩) cb zs w14 hBb14.out Hoc.out (by have := HL.out; omega)
      rw [← HL.out] at key1 key2
      have HK1 := hid' key1
      have HK2 := hid' key2
      clear key1 key2
      generalize crc zs = z0 at HK1 HK2
      go_wp2_with fail
      refine HK1.out.mono ?_
      rintro e w15 ⟨rfl, rfl⟩
      go_wp2_with fail
      refine HK2.out.mono ?_
      rintro e w15 ⟨rfl, rfl⟩
      go_wp2_with fail
      go_ret
      exact ⟨by simp, hB14.out⟩

end Go.Proofs.Ytdcbmeiopfdkeaa
