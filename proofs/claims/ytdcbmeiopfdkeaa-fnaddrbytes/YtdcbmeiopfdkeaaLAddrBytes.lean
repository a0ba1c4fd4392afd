/-
  For every code: the address that is drawn, if it is right, comes back of its bytes at its place; without the last one it does not; one that is not right has none, as the law FnAddrBytes asks.
-/
import Derived.Test.YtdcbmeiopfdkeaaWPutD
import Derived.Test.YtdcbmeiopfdkeaaCAdM
import Derived.Test.YtdcbmeiopfdkeaaCGetA
import Derived.Test.YtdcbmeiopfdkeaaCRow
import Derived.Test.YtdcbmeiopfdkeaaHBox
import Derived.Deep.RegionHeld3
namespace Go.Proofs.Ytdcbmeiopfdkeaa
open Go.RowKit

theorem Box.far {W X : World} {p k : Nat} {vs : List Value} (h : Box W p vs) (g : W.grownBy X (some k)) (hne : p ≠ k) : Box X p vs :=
  ⟨Nat.lt_of_lt_of_le h.1 g.size, fun j v e => (g.cell_far ⟨p, j, none⟩ h.1 (by simpa using hne)).trans (h.2 j v e)⟩

set_option maxHeartbeats 4000000 in
theorem lawAddrBytes (a : Option Addr) (len cap : Nat) (w : World) (hB : Bytes w a len) (hl : len ≤ 1048576) :
    Calls Try.prog 5 #[.slice a len cap] w fun e w' => e = .returned (.bool true) ∧ Below w.heap.size w w' := by
  have HBy : Hid (Bytes w a len) := hB
  clear hB
  have hbig : ∀ wx : World, Calls Try.prog 9 #[.slice a len cap] wx fun e w' => e = .returned (.bool false) ∧ wx = w' := fun wx => by
    have d : decide ((1048576 : Int) < (len : Int)) = false := decide_eq_false (by omega)
    go_enter Try.func9, Try.ntmps9
    go_wp2
    go_ret
    exact ⟨rfl, rfl⟩
  have HG : Hid (∀ wx : World, _) := hbig
  clear hbig
  go_enter Try.func5, Try.ntmps5
  go_wp2_with fail
  refine (HG.out _).mono ?_
  rintro e w0 ⟨rfl, rfl⟩
  go_wp2_with fail
  refine (drawPutAddr_any a len cap _ HBy.out hl).mono ?_
  rintro e w1 ⟨⟨s, h, l, ⟨bh, bl⟩, rfl⟩, hb1⟩
  have HB1 := hid' hb1
  have hz1 := hb1.size
  clear hb1
  go_wp2_with fail
  refine (iPutAddr_any s h l _).mono ?_
  rintro e w2 ⟨g, cb, rfl, ho2, hb2⟩
  have HBx2 : Hid (Box w2 w1.heap.size [.bool s, .int .i64 h, .int .i64 l]) := Box.below (Box.new [.bool s, .int .i64 h, .int .i64 l] 38 rfl) hb2
  have HB2 := hid' (((HB1.out.alloc hz1 _).trans (hb2.mono (by simp; omega))))
  have HO2 := hid' (Own.mono ho2 (B' := w1.heap.size + 1) (by simp))
  have hz2 : w1.heap.size + 1 ≤ w2.heap.size := by have := hb2.size; simpa using this
  clear ho2 hb2
  have HIH := hid' (And.intro bh bl)
  clear bh bl
  obtain ⟨lp, zp⟩ := HBx2.out
  have cp0 := zp 0 _ rfl
  have cp1 := zp 1 _ rfl
  have cp2 := zp 2 _ rfl
  clear zp
  go_wp2_with fail
  clear lp cp0 cp1 cp2
  refine (sAddrOk_any s h l _).mono ?_
  rintro e w3 ⟨rfl, hb3⟩
  have HBx3 := hid' (HBx2.out.below hb3)
  have HO3 := hid' (HO2.out.later hb3)
  have HB3 := hid' (HB2.out.trans (hb3.mono HB2.out.size))
  have hz3 := hb3.size
  clear HBx2 HO2 HB2 hb3
  cases hok : okB s h l
  · have e0 : (adrB s h l).length = 0 := by rw [adrB_no hok]; rfl
    rw [e0] at *
    clear hok
    go_wp2_with fail
    go_ret
    exact ⟨rfl, HB3.out⟩
  · obtain ⟨hs, z, hsp⟩ : ∃ hs z, adrB s h l = hs ++ [z] := by
      have : adrB s h l ≠ [] := by
        cases s
        · rw [adrB_4 hok]; simp
        · rw [adrB_6]; simp
      exact ⟨_, _, (List.dropLast_concat_getLast this).symm⟩
    have HBk := hid' (ga_back s h l HIH.out.1 HIH.out.2 hok 1 [3])
    have HSh := hid' (ga_short s h l hok hs z hsp)
    have hlen := adrB_len s h l
    obtain ⟨m, hm⟩ : ∃ m, m = hs.length := ⟨_, rfl⟩
    have HM := hid' (show (adrB s h l).length = m + 1 by rw [hm, hsp]; simp)
    have HQs := hid' hm
    have HSp := hid' hsp
    have hm10 : m ≤ 16 := by have := HM.out; omega
    have HO3' := hid' HO3.out
    rw [HM.out] at HO3' HBk ⊢
    clear hm hsp hok hlen HO3
    have hmz : 1 + (m + 1) ≤ 1000000000 := by omega
    have HL1 := hid' (own_lit w3 (w1.heap.size + 1) 1 (by omega))
    have HQ : Hid (Src Try.prog 1 22 (.slice (some ⟨g, 0, none⟩) (m + 1) cb) (adrB s h l).length ((adrB s h l).map (Value.int .u8)) (w3.alloc (.cells #[.int .u8 1] 5))) := by
      rw [← HM.out]; exact src_byt (zs := adrB s h l) cb (HO3'.out.alloc _).bytA (by simp)
    have hw3 : w1.heap.size + 1 ≤ w3.heap.size := by omega
    have gg := (Own.lt HO3'.out g rfl)
    obtain ⟨lp, zp⟩ := HBx3.out
    have cp0 := zp 0 _ rfl
    have cp1 := zp 1 _ rfl
    have cp2 := zp 2 _ rfl
    clear zp
    go_wp2_with (at_builtin; first
      | (refine wpList_app _ rfl (.tmp 24) (.tmp 25) 22 rfl (w1.heap.size + 1) w3.heap.size 1 1 [1] (adrB s h l) _ _ rfl rfl rfl HL1.out rfl HQ.out (by rw [HM.out]; exact hmz) (by simp; omega) ?_; intro h4 c4 w4 o4 r4 t4; rw [HM.out] at o4 ⊢; have HO4 := hid' o4; have hw4 : w1.heap.size + 1 ≤ w4.heap.size := Nat.le_trans hw3 (Nat.le_trans (by simp) r4.size); have HR4 := hid' r4; have HT4 := hid' t4; clear o4 r4 t4)
      | (refine wpList_app _ rfl (.tmp 26) (.tmp 27) 22 rfl (w1.heap.size + 1) h4 (1 + (m + 1)) c4 ([1] ++ adrB s h l) [3] _ _ rfl rfl (by rw [List.length_append, HM.out]; rfl) (HO4.out.alloc _) rfl (src_byt (zs := [3]) 1 (own_lit w4 (w1.heap.size + 1) 3 hw4).bytA (by simp)) (by show 1 + (m + 1) + 1 ≤ _; omega) (by simp; omega) ?_; intro h5 c5 w5 o5 r5 t5))
    clear lp cp0 cp1 cp2
    have eL : ([1] ++ adrB s h l ++ [3]).length = 1 + (m + 1) + 1 := by rw [List.length_append, List.length_append, HM.out]; rfl
    have hB4 : Below w.heap.size w w4 := below_app (HB3.out.alloc (by omega) _) (HL1.out.mono (by omega)) (by simp; omega) HR4.out
    have hB5 := hid' (below_app (hB4.alloc (by omega) _) ((HO4.out.alloc _).mono (by omega)) (by simp; omega) r5)
    have o5' : Own w5 (w1.heap.size + 1) (.slice (some ⟨h5, 0, none⟩) (1 + (m + 1) + 1) c5) ([1] ++ adrB s h l ++ [3]) := o5
    have HO5 := hid' o5'
    have g4 : h4 = w3.heap.size ∨ h4 = w3.heap.size + 1 := by rcases HT4.out with h | h <;> (try simp at h) <;> omega
    have hBt5 := hid' (Byt.far (Byt.more (Byt.far (Byt.more HO3'.out.bytA _) HR4.out (by omega)) _) r5 (show g ≠ h4 by omega))
    have HBx5 := hid' (Box.far (Box.more (Box.far (Box.more HBx3.out _) HR4.out (by omega)) _) r5 (show w1.heap.size ≠ h4 by omega))
    clear hB4 o5 o5' r5 t5 g4
    have key := iGetAddr_all (some ⟨h5, 0, none⟩) c5 ([1] ++ adrB s h l ++ [3]) 1 w5 HO5.out.bytA (oct_app (oct_app (oct_one (by omega)) (adrB_oct s h l)) (oct_one (by omega))) (Own.caps HO5.out).1 ⟨by rw [eL]; omega, (Own.caps HO5.out).2⟩
    rw [eL, List.append_assoc, HBk.out] at key
    refine key.mono ?_
    clear key eL
    rintro e w6 ⟨rfl, hb6⟩
    have HB6 := hid' (hB5.out.trans (hb6.mono hB5.out.size))
    have HBx6 := hid' (HBx5.out.below hb6)
    have hBt6 : Byt w6 (some ⟨g, 0, none⟩) (adrB s h l) := hBt5.out.later hb6
    rw [HSp.out] at hBt6
    have HBt6 := hid' hBt6
    have hz6 := hb6.size
    have hcb := (Own.caps HO3'.out).1
    have HCb := hid' (Own.caps HO3'.out).2
    rw [HM.out] at hcb
    have HOc : Hid (Oct hs) := fun z hz => adrB_oct s h l z (by rw [HSp.out]; exact List.mem_append_left _ hz)
    clear hBt6 hBt5 HBx5 hb6 hB5 HO5
    go_wp2_with fail
    have key2 := iGetAddr_all (some ⟨g, 0, none⟩) cb hs 0 (w6.alloc (.cells #[.bool s, .int .i64 h, .int .i64 l] 38)) ((byt_init HBt6.out).more _) HOc.out (by rw [← HQs.out]; omega) ⟨by rw [← HQs.out]; omega, HCb.out⟩
    rw [← HQs.out, HSh.out] at key2
    refine key2.mono ?_
    clear key2
    rintro e w7 ⟨rfl, hb7⟩
    have HB7 := hid' ((HB6.out.alloc HB6.out.size _).trans (hb7.mono (by have := HB6.out.size; simp; omega)))
    have HBx7 := hid' ((HBx6.out.more _).below hb7)
    have HBy7 := hid' ((Box.new [.bool s, .int .i64 h, .int .i64 l] 38 rfl).below hb7)
    unfold gaNo
    clear hb7
    obtain ⟨lp, zp⟩ := HBx7.out
    have cp0 := zp 0 _ rfl
    have cp1 := zp 1 _ rfl
    have cp2 := zp 2 _ rfl
    clear zp
    obtain ⟨lq, zq⟩ := HBy7.out
    have cq0 := zq 0 _ rfl
    have cq1 := zq 1 _ rfl
    have cq2 := zq 2 _ rfl
    clear zq
    go_wp2_with fail
    go_ret
    exact ⟨rfl, HB7.out.alloc HB7.out.size _⟩

end Go.Proofs.Ytdcbmeiopfdkeaa
