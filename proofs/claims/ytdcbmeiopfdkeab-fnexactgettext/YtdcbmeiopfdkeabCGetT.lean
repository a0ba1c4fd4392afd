/-
  Both GetText answer what the plain reading says, wherever they are asked to read.
-/
import Derived.Test.YtdcbmeiopfdkeabCAtS
import Derived.Test.YtdcbmeiopfdkeabCGetN
import Derived.Test.YtdcbmeiopfdkeabCTxtI
namespace Go.Proofs.Ytdcbmeiopfdkeab
open Go.RowKit

set_option maxHeartbeats 4000000 in
theorem sGetText_all (a : Option Addr) (cap : Nat) (zs : List Int) (at' : Int) (w : World) (hB : Byt w a zs) (ho : Oct zs) (hnc : zs.length ≤ cap) (hcap : cap ≤ 1000000000) (ha : at' ≤ 9223372036854775807) :
    Calls Try.prog 9 #[.slice a zs.length cap, .int .i64 at'] w fun e w' => e = .returned (gtV zs at') ∧ Below w.heap.size w w' := by
  have HB := hid' hB
  have HO := hid' ho
  clear hB ho
  obtain ⟨n, hn⟩ : ∃ n, n = zs.length := ⟨_, rfl⟩
  have HN := hid' hn
  have no : ∀ (p q : Int), gnV zs at' = .tuple #[.int .i64 p, .int .i64 q, .bool false] → gtV zs at' = gtNo → Calls Try.prog 9 #[.slice a zs.length cap, .int .i64 at'] w fun e w' => e = .returned (gtV zs at') ∧ Below w.heap.size w w' := by
    intro p q h1 h2
    have H1 := hid' h1
    have H2 := hid' h2
    clear h1 h2 hn
    go_enter Try.func9, Try.ntmps9
    go_wp2_with fail
    refine (sGetNum_all a cap zs at' w HB.out HO.out (by omega) ha).mono ?_
    rw [H1.out]
    rintro e w1 ⟨rfl, rfl⟩
    go_wp2_with fail
    exact bodyPost_ret (v := gtNo) (by simp [gtNo, results, Try.results9, go_sem]) rfl ⟨by rw [H2.out], Below.refl _ _⟩
  by_cases hneg : at' < 0
  · exact no _ _ (gnV_neg hneg) (gtV_neg hneg)
  obtain ⟨k0, rfl⟩ := Int.eq_ofNat_of_zero_le (show 0 ≤ at' by omega)
  cases hr : rdN zs k0 with
  | torn => exact no _ _ (gnV_torn hr) (gtV_torn hr)
  | bad => exact no _ _ (gnV_bad hr) (gtV_bad hr)
  | good x k =>
    have hle := rdN_le hr
    have H1 := hid' (gnV_good hr)
    clear no
    by_cases hok : 0 ≤ wrap64 x ∧ wrap64 x ≤ (zs.length : Int) - ((k0 : Int) + k)
    · have hV := gtV_good hr hok
      obtain ⟨c, hc⟩ := Int.eq_ofNat_of_zero_le hok.1
      rw [hc] at hV hok H1
      rw [Int.toNat_natCast] at hV
      have H2 := hid' hV
      have hin : k0 + k + c ≤ zs.length := by omega
      clear hV hr hc
      rw [← hn] at hin hle hnc hok ⊢
      have hkn : k0 + k ≤ n := by omega
      clear hn
      go_enter Try.func9, Try.ntmps9
      go_wp2_with fail
      have hg := sGetNum_all a cap zs k0 w HB.out HO.out (by have := HN.out; omega) ha
      rw [H1.out, ← HN.out] at hg
      refine hg.mono ?_
      rintro e w1 ⟨rfl, rfl⟩
      clear hg
      have hcut := HB.out.cut (k0 + k) c (by rw [← HN.out]; exact hin)
      by_cases hcap0 : cap = k0 + k
      · have hc0 : c = 0 := by omega
        subst hc0
        subst hcap0
        have hcv := conv_str w a 0 0 [] rfl (Byt.nil _ _)
        have HS : Hid (strOf (sub zs (k0 + k) 0) = strOf []) := by unfold Hid sub; simp
        have E1 : Hid ((k0 : Int) + k + ((0 : Nat) : Int) = (k0 : Int) + k) := by unfold Hid; omega
        clear hcut
        go_wp2_with fail
        exact bodyPost_ret (v := .tuple #[.string (strOf []), .int .i64 ((k0 : Int) + k), .bool true]) (by simp [results, Try.results9, go_sem]) rfl ⟨by rw [H2.out, HS.out, E1.out], Below.refl _ _⟩
      · have hcv := conv_str w (a.map fun x => x.add (k0 + k)) c (cap - (k0 + k)) (sub zs (k0 + k) c) (sub_len (by rw [← HN.out]; exact hin)).symm hcut
        clear hcut
        go_wp2_with fail
        exact bodyPost_ret (v := .tuple #[.string (strOf (sub zs (k0 + k) c)), .int .i64 ((k0 : Int) + k + c), .bool true]) (by simp [results, Try.results9, go_sem]) rfl ⟨by rw [H2.out], Below.refl _ _⟩
    · have H2 := hid' (gtV_far hr hok)
      generalize hy : wrap64 x = y at hok H1
      clear hr hy
      rw [← hn] at hok hle hnc ⊢
      clear hn
      have hg := sGetNum_all a cap zs k0 w HB.out HO.out (by have := HN.out; omega) ha
      rw [H1.out, ← HN.out] at hg
      have HGn := hid' hg
      clear hg
      by_cases h0 : y < 0
      · clear hok
        go_enter Try.func9, Try.ntmps9
        go_wp2_with fail
        refine HGn.out.mono ?_
        rintro e w1 ⟨rfl, rfl⟩
        go_wp2_with fail
        exact bodyPost_ret (v := gtNo) (by simp [gtNo, results, Try.results9, go_sem]) rfl ⟨by rw [H2.out], Below.refl _ _⟩
      · have h1 : (n : Int) - ((k0 : Int) + k) < y := by omega
        clear hok
        go_enter Try.func9, Try.ntmps9
        go_wp2_with fail
        refine HGn.out.mono ?_
        rintro e w1 ⟨rfl, rfl⟩
        go_wp2_with fail
        exact bodyPost_ret (v := gtNo) (by simp [gtNo, results, Try.results9, go_sem]) rfl ⟨by rw [H2.out], Below.refl _ _⟩

theorem gtV_form (zs : List Int) (a : Int) : ∃ (p : ByteArray) (q : Int) (r : Bool), gtV zs a = .tuple #[.string p, .int .i64 q, .bool r] := by
  unfold gtV gtNo; split
  · exact ⟨_, _, _, rfl⟩
  · split
    · split
      · exact ⟨_, _, _, rfl⟩
      · exact ⟨_, _, _, rfl⟩
    · exact ⟨_, _, _, rfl⟩

set_option maxHeartbeats 2000000 in
theorem iGetText_all (a : Option Addr) (cap : Nat) (zs : List Int) (at' : Int) (w : World) (hB : Byt w a zs) (ho : Oct zs) (hnc : zs.length ≤ cap) (hcap : cap ≤ 1000000000000) :
    Calls Try.prog 11 #[.slice a zs.length cap, .int .i64 at'] w fun e w' => e = .returned (gtV zs at') ∧ Below w.heap.size w w' := by
  have HB := hid' hB
  have HO := hid' ho
  clear hB ho
  by_cases hout : at' < 0 ∨ (zs.length : Int) < at'
  · have HV : Hid (gtV zs at' = gtNo) := by
      by_cases h : at' < 0
      · exact gtV_neg h
      · obtain ⟨k, rfl⟩ := Int.eq_ofNat_of_zero_le (show 0 ≤ at' by omega)
        exact gtV_torn (rdF_none (List.getElem?_eq_none (by omega)))
    have HOut := hid' hout
    clear hout
    go_enter Try.func11, Try.ntmps11
    go_wp2_with fail
    refine (readAtS_out a zs.length cap at' _ w HOut.out).mono ?_
    rintro e w1 ⟨rfl, hb⟩
    have HB1 := hid' hb
    clear hb
    go_wp2_with fail
    exact bodyPost_ret (v := gtNo) (by simp [gtNo, results, Try.results11, go_sem]) rfl ⟨by rw [HV.out], HB1.out⟩
  · obtain ⟨k, rfl⟩ := Int.eq_ofNat_of_zero_le (show 0 ≤ at' by omega)
    have hk : k ≤ zs.length := by omega
    clear hout
    go_enter Try.func11, Try.ntmps11
    go_wp2_with fail
    refine (readAtS_in (fun v j _ => ∃ s, v = .string s ∧ gtV zs (k : Int) = .tuple #[.string s, .int .i64 ((j : Nat) : Int), .bool true]) (fun f => f ≠ 0 ∧ gtV zs (k : Int) = gtNo) a zs.length cap k zs w HB.out rfl hnc hcap hk (fun _ _ _ _ h => h) (fun _ _ _ h => h) (fun wr hr => (text_any _ a _ cap k zs wr hr HO.out).mono ?_)).mono ?_
    · rintro e w' ⟨⟨s, j, hv, rfl, hrd⟩ | ⟨f, hv, hf, rfl⟩, hgr⟩
      · exact ⟨Or.inl ⟨_, j, rfl, hrd, s, rfl, hv⟩, hgr⟩
      · exact ⟨Or.inr ⟨f, rfl, hf, hv⟩, hgr⟩
    · rintro e w1 ⟨⟨v, j, rfl, s, rfl, hv⟩ | ⟨f, rfl, hf, hv⟩, hb⟩
      · have HV := hid' hv
        have HB1 := hid' hb
        clear hb hv
        go_wp2_with fail
        exact bodyPost_ret (v := .tuple #[.string s, .int .i64 (j : Int), .bool true]) (by simp [results, Try.results11, go_sem]) rfl ⟨by rw [HV.out], HB1.out⟩
      · have HV := hid' hv
        have hf0 : (f == 0) = false := by rw [beq_eq_false_iff_ne]; exact hf
        have HB1 := hid' hb
        clear hb hf hv
        go_wp2_with fail
        exact bodyPost_ret (v := gtNo) (by simp [gtNo, results, Try.results11, go_sem]) rfl ⟨by rw [HV.out], HB1.out⟩

end Go.Proofs.Ytdcbmeiopfdkeab
