/-
  For every code: the number that is drawn comes back of its bytes at its place; with a needless byte, or without the last one, it is none, as the law FnNumbers asks.
-/
import Derived.Test.YtdcbmeiopfdkeaaWPutD
import Derived.Test.YtdcbmeiopfdkeaaCNumM
import Derived.Test.YtdcbmeiopfdkeaaCPut
import Derived.Test.YtdcbmeiopfdkeaaCGetN
import Derived.Test.YtdcbmeiopfdkeaaCRow
import Derived.Deep.RegionHeld3
namespace Go.Proofs.Ytdcbmeiopfdkeaa
open Go.RowKit

set_option maxHeartbeats 4000000 in
theorem lawNumbers (a : Option Addr) (len cap : Nat) (w : World) (hB : Bytes w a len) (hl : len ≤ 1048576) :
    Calls Try.prog 3 #[.slice a len cap] w fun e w' => e = .returned (.bool true) ∧ Below w.heap.size w w' := by
  have HBy : Hid (Bytes w a len) := hB
  clear hB
  have hbig : ∀ wx : World, Calls Try.prog 9 #[.slice a len cap] wx fun e w' => e = .returned (.bool false) ∧ wx = w' := fun wx => by
    have d : decide ((1048576 : Int) < (len : Int)) = false := decide_eq_false (by omega)
    go_enter Try.func9, Try.ntmps9
    go_wp2
    go_ret
    exact ⟨rfl, rfl⟩
  have HG : Hid (∀ wx : World, _) := hbig
  clear hbig
  go_enter Try.func3, Try.ntmps3
  go_wp2_with fail
  refine (HG.out _).mono ?_
  rintro e w0 ⟨rfl, rfl⟩
  go_wp2_with fail
  refine (drawPutNum_any a len cap _ HBy.out hl).mono ?_
  rintro e w1 ⟨⟨n, bn, rfl⟩, hb1⟩
  obtain ⟨hs, l, hsp, hh, l0, l9⟩ := numB_split (u64 n)
  have hten := numB_ten (u64 n) (u64_lt n)
  have hpos := numB_pos (u64 n)
  have hlen : (numB (u64 n)).length = hs.length + 1 := by rw [hsp]; simp
  have HL := hid' (gn_long (u64 n) (u64_lt n) hs l hsp hh l0)
  have HS := hid' (gn_short (u64 n) (u64_lt n) hs l hsp hh)
  have HP := hid' (gn_back n bn)
  have HSp := hid' (And.intro hsp hlen)
  have Ho := hid' (numB_oct (u64 n))
  have hz1 := hb1.size
  have HB1 := hid' hb1
  clear hsp hh bn hb1 hlen
  go_wp2_with fail
  refine (iPutNum_any n _).mono ?_
  rintro e w2 ⟨b, cb, rfl, ho2, hb2⟩
  obtain ⟨g, rfl, g0, g9⟩ := Own.head ho2 hpos
  have HO2 := hid' ho2
  have HB2 := hid' (HB1.out.trans (hb2.mono hz1))
  clear ho2 hb2
  obtain ⟨m, hm⟩ : ∃ m, m = hs.length := ⟨_, rfl⟩
  have HM : Hid ((numB (u64 n)).length = m + 1) := by rw [hm]; exact HSp.out.2
  have HQs := hid' hm
  have hm10 : m ≤ 9 := by have := HM.out; omega
  rw [HM.out]
  clear hm
  have hmz : 1 + (m + 1) ≤ 1000000000 := by omega
  have HO2' : Hid (Own (w2.alloc (.cells #[.int .u8 9] 5)) w1.heap.size (.slice (some ⟨g, 0, none⟩) (m + 1) cb) (numB (u64 n))) := by rw [← HM.out]; exact HO2.out.alloc _
  have HL9 := hid' (own_lit w2 w1.heap.size 9 (by omega))
  have HQ : Hid (Src Try.prog 1 22 (.slice (some ⟨g, 0, none⟩) (m + 1) cb) (numB (u64 n)).length ((numB (u64 n)).map (Value.int .u8)) (w2.alloc (.cells #[.int .u8 9] 5))) := by
    rw [← HM.out]; exact src_byt (zs := numB (u64 n)) cb (HO2.out.alloc _).bytA (by simp)
  have hw2 : w1.heap.size ≤ w2.heap.size := by omega
  go_wp2_with (at_builtin; first
    | (refine wpList_app _ rfl (.tmp 22) (.tmp 23) 22 rfl w1.heap.size w2.heap.size 1 1 [9] (numB (u64 n)) _ _ rfl rfl rfl HL9.out rfl HQ.out (by rw [HM.out]; exact hmz) (by simp; omega) ?_; intro h3 c3 w3 o3 r3 t3; rw [HM.out] at o3 ⊢; have HO3 := hid' o3; have hw3 : w1.heap.size ≤ w3.heap.size := Nat.le_trans hw2 (Nat.le_trans (by simp) r3.size); have HR3 := hid' r3; have HT3 := hid' t3; clear o3 r3 t3)
    | (refine wpList_app _ rfl (.tmp 24) (.tmp 25) 22 rfl w1.heap.size h3 (1 + (m + 1)) c3 ([9] ++ numB (u64 n)) [200] _ _ rfl rfl (by rw [List.length_append, HM.out]; rfl) (HO3.out.alloc _) rfl (src_byt (zs := [200]) 1 (own_lit w3 w1.heap.size 200 hw3).bytA (by simp)) (by show 1 + (m + 1) + 1 ≤ _; omega) (by simp; omega) ?_; intro h4 c4 w4 o4 r4 t4))
  have eL : ([9] ++ numB (u64 n) ++ [200]).length = 1 + (m + 1) + 1 := by rw [List.length_append, List.length_append, HM.out]; rfl
  have hB3 : Below w.heap.size w w3 := below_app (HB2.out.alloc (by omega) _) (HL9.out.mono hz1) (by simp; omega) HR3.out
  have hB4 := hid' (below_app (hB3.alloc (by omega) _) ((HO3.out.alloc _).mono hz1) (by simp; omega) r4)
  have o4' : Own w4 w1.heap.size (.slice (some ⟨h4, 0, none⟩) (1 + (m + 1) + 1) c4) ([9] ++ numB (u64 n) ++ [200]) := o4
  have HO4 := hid' o4'
  have hBt4 := hid' (Byt.far (Byt.more (Byt.far HO2'.out.bytA HR3.out (by omega)) _) r4 (show g ≠ h3 by rcases HT3.out with h | h <;> (try simp at h) <;> omega))
  clear hB3 o4 o4'
  have key := iGetNum_all (some ⟨h4, 0, none⟩) c4 ([9] ++ numB (u64 n) ++ [200]) 1 w4 HO4.out.bytA (oct_app (oct_app (oct_one (by omega)) Ho.out) (oct_one (by omega))) (Own.caps HO4.out).1 ⟨by rw [eL]; omega, (Own.caps HO4.out).2⟩
  have eP : gnV ([9] ++ (numB (u64 n) ++ [200])) 1 = .tuple #[.int .i64 n, .int .i64 (1 + ((m + 1 : Nat) : Int)), .bool true] := by have h := HP.out [9] [200]; rw [HM.out] at h; exact h
  rw [eL, List.append_assoc, eP] at key
  refine key.mono ?_
  clear key
  rintro e w5 ⟨rfl, hb5⟩
  have hBt5 := hid' (hBt4.out.later hb5)
  have hB5 := hid' (hB4.out.trans (hb5.mono hB4.out.size))
  have cl : w5.cell? ⟨g, m, none⟩ = some (.int .u8 l) := by
    obtain ⟨p, o, z, ha, hp, hc, hz⟩ := hBt5.out m (by rw [HM.out]; omega)
    cases ha
    rw [HSp.out.1, HQs.out, List.getElem?_append_right (Nat.le_refl _), Nat.sub_self] at hz
    cases hz
    rw [Nat.zero_add] at hc; exact hc
  have g5 : g < w5.heap.size := World.block_lt_of_cell? w5 _ cl
  have hcb := (Own.caps HO2'.out).1
  have HCb := hid' (Own.caps HO2'.out).2
  rw [HM.out] at hcb
  have v1 : IntKind.i64.wrap ((m : Int) + 1 - 1) = (m : Int) := by rw [IntKind.wrap_i64]; omega
  have v2 : IntKind.i64.wrap (m : Int) = (m : Int) := by rw [IntKind.wrap_i64]; omega
  have q1 : (0 : Int) ≤ (m : Int) := by omega
  have q2 : (m : Int) ≤ (cb : Int) := by omega
  have q3 : (m : Int) < (m : Int) + 1 := by omega
  have q4 : m < m + 1 := by omega
  have q5 : m ≤ cb := by omega
  have q6 : cb ≠ 0 := by omega
  have t1 : ((m : Int)).toNat = m := by omega
  clear eP eL
  go_wp2_with fail
  have v3 : IntKind.u8.wrap (l + 128) = l + 128 := by rw [IntKind.wrap_u8]; omega
  have v4 : (l + 128) % 256 = l + 128 := by omega
  have HB5' : Hid (Byt w5 (some ⟨g, 0, none⟩) (hs ++ [l])) := by rw [← HSp.out.1]; exact hBt5.out
  have hS5 := keepC cl g5 (Below.refl _ _)
  go_region_held3 (fun w' => w'.cell? ⟨g, m, none⟩ = some (.int .u8 l) ∧ Below w5.heap.size w5 w') (first | (with_reducible exact keepC cl g5 b7) | (with_reducible exact keepC cl g5 b6) | (with_reducible exact keepC cl g5 (Below.refl _ _)) | (with_reducible exact keepC cl g5 (Below.refl _ _).drew) | (with_reducible exact keepCA cl g5 (by assumption) _) | (with_reducible exact keepCE cl g5 (by assumption) _))
    (first | (refine step_app _ rfl (.tmp 50) (.tmp 55) 22 rfl w5.heap.size _ _ _ [] hs _ _ rfl rfl rfl (by repeat (first | (with_reducible exact own_nilE _ _ (by (try simp) <;> omega) (by (try simp) <;> omega)) | (with_reducible refine own_drewI ?_) | (with_reducible refine Own.alloc ?_ _))) rfl (src_cut HB5'.out HQs.out (by assumption)) (by rw [← HQs.out]; omega) (by (try simp) <;> omega) ?_; intro h6 c6 w6 o6 r6 t6; rw [Nat.zero_add, ← HQs.out] at o6 ⊢; rw [List.nil_append] at o6; have hh6 := (Own.lt o6 h6 rfl).1; have b6 := appC (by assumption) r6 (by (try simp) <;> omega)) | (refine step_app _ rfl (.tmp 56) (.tmp 64) 22 rfl w5.heap.size _ _ _ hs [l + 128, 0] _ _ rfl rfl HQs.out (by repeat (first | (with_reducible exact o6) | (with_reducible refine own_drewI ?_) | (with_reducible refine Own.alloc ?_ _))) rfl (src_byt (zs := [l + 128, 0]) _ (by repeat (first | (with_reducible exact byt_two _ _ _ (by (try simp) <;> omega)) | (with_reducible refine byt_drew ?_) | (with_reducible refine Byt.more ?_ _) | (with_reducible refine Byt.far ?_ r6 (by (try simp) <;> omega)))) (by simp)) (by simp; omega) (by have := b6.size; (try simp) <;> omega) ?_; intro h7 c7 w7 o7 r7 t7; have b7 := appC (by assumption) r7 hh6))
  all_goals
    have e7 : (hs ++ [l + 128, 0]).length = m + 2 := by rw [List.length_append, ← HQs.out]; rfl
    have key := iGetNum_all (some ⟨h7, 0, none⟩) c7 (hs ++ [l + 128, 0]) 0 w7 (Own.bytA o7) (oct_app (fun z hz => Ho.out z (by rw [HSp.out.1]; exact List.mem_append_left _ hz)) (fun z hz => by simp at hz; omega)) (Own.caps o7).1 ⟨by rw [e7]; omega, (Own.caps o7).2⟩
    rw [e7, HL.out] at key
    have HK7 := hid' key
    have HB7 := hid' (hB5.out.trans (b7.mono hB5.out.size))
    have HBt7 := hid' (HB5'.out.later b7)
    clear key e7 o7 r7 t7 b7 o6 r6 t6 b6 hh6
    go_wp2_with fail
    refine HK7.out.mono ?_
    rintro e w8 ⟨rfl, hb8⟩
    have HB8 := hid' (HB7.out.trans (hb8.mono HB7.out.size))
    have key := iGetNum_all (some ⟨g, 0, none⟩) cb hs 0 w8 (byt_init (HBt7.out.later hb8)) (fun z hz => Ho.out z (by rw [HSp.out.1]; exact List.mem_append_left _ hz)) (by rw [← HQs.out]; exact q5) ⟨by rw [← HQs.out]; omega, HCb.out⟩
    rw [← HQs.out, HS.out] at key
    have HK8 := hid' key
    clear hb8 key HK7
    go_wp2_with fail
    refine HK8.out.mono ?_
    rintro e w9 ⟨rfl, hb9⟩
    have HB9 := hid' (HB8.out.trans (hb9.mono HB8.out.size))
    clear hb9
    go_wp2_with fail
    go_ret
    exact ⟨rfl, HB9.out⟩

end Go.Proofs.Ytdcbmeiopfdkeaa
