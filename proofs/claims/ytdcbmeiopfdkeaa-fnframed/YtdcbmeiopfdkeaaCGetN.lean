/-
  Both GetNum answer what the plain reading says, wherever they are asked to read.
-/
import Derived.Test.YtdcbmeiopfdkeaaCAtI
namespace Go.Proofs.Ytdcbmeiopfdkeaa
open Go.RowKit

set_option maxHeartbeats 1000000 in
theorem sGetNum_neg (a : Option Addr) (n cap : Nat) (at' : Int) (w : World) (h : at' < 0) :
    Calls Try.prog 30 #[.slice a n cap, .int .i64 at'] w fun e w' => e = .returned (.tuple #[.int .i64 0, .int .i64 0, .bool false]) ∧ w = w' := by
  go_enter Try.func30, Try.ntmps30
  go_wp2
  exact bodyPost_ret (v := .tuple #[.int .i64 0, .int .i64 0, .bool false]) (by simp [results, Try.results30, go_sem]) rfl ⟨rfl, rfl⟩

theorem sGetNum_all (a : Option Addr) (cap : Nat) (zs : List Int) (at' : Int) (w : World) (hB : Byt w a zs) (ho : Oct zs) (hl : zs.length ≤ 9000000000) (ha : at' ≤ 9223372036854775807) :
    Calls Try.prog 30 #[.slice a zs.length cap, .int .i64 at'] w fun e w' => e = .returned (gnV zs at') ∧ w = w' := by
  by_cases h : at' < 0
  · rw [gnV_neg h]; exact sGetNum_neg a _ cap at' w h
  · obtain ⟨k, rfl⟩ := Int.eq_ofNat_of_zero_le (show 0 ≤ at' by omega)
    exact sGetNum_any a cap zs k w hB ho hl (by omega)

theorem sGetNum_b (a : Option Addr) (cap : Nat) (zs : List Int) (at' : Int) (w : World) (hB : Byt w a zs) (ho : Oct zs) (hl : zs.length ≤ 9000000000) (ha : at' ≤ 9223372036854775807) :
    Calls Try.prog 30 #[.slice a zs.length cap, .int .i64 at'] w fun e w' => e = .returned (gnV zs at') ∧ Below w.heap.size w w' :=
  (sGetNum_all a cap zs at' w hB ho hl ha).mono fun _ _ h => ⟨h.1, below_eq h.2⟩

theorem gnV_form (zs : List Int) (a : Int) : ∃ (p q : Int) (r : Bool), gnV zs a = .tuple #[.int .i64 p, .int .i64 q, .bool r] := by
  unfold gnV; split
  · exact ⟨_, _, _, rfl⟩
  · split
    · exact ⟨_, _, _, rfl⟩
    · exact ⟨_, _, _, rfl⟩

set_option maxHeartbeats 2000000 in
theorem iGetNum_all (a : Option Addr) (cap : Nat) (zs : List Int) (at' : Int) (w : World) (hB : Byt w a zs) (ho : Oct zs) (hnc : zs.length ≤ cap) (hcap : zs.length ≤ 1000000000000 ∧ cap ≤ 9223372036854775807) :
    Calls Try.prog 12 #[.slice a zs.length cap, .int .i64 at'] w fun e w' => e = .returned (gnV zs at') ∧ Below w.heap.size w w' := by
  have HB := hid' hB
  have HO := hid' ho
  clear hB ho
  by_cases hout : at' < 0 ∨ (zs.length : Int) < at'
  · have HV : Hid (gnV zs at' = .tuple #[.int .i64 0, .int .i64 0, .bool false]) := by
      by_cases h : at' < 0
      · exact gnV_neg h
      · obtain ⟨k, rfl⟩ := Int.eq_ofNat_of_zero_le (show 0 ≤ at' by omega)
        exact gnV_torn (rdF_none (List.getElem?_eq_none (by omega)))
    have HOut := hid' hout
    clear hout
    go_enter Try.func12, Try.ntmps12
    go_wp2_with fail
    refine (readAtI_out a zs.length cap at' _ w HOut.out).mono ?_
    rintro e w1 ⟨rfl, hb⟩
    have HB1 := hid' hb
    clear hb
    go_wp2_with fail
    refine bodyPost_ret (v := .tuple #[.int .i64 0, .int .i64 0, .bool false]) (by simp [results, Try.results12, go_sem]) rfl ⟨by rw [HV.out], HB1.out⟩
  · obtain ⟨k, rfl⟩ := Int.eq_ofNat_of_zero_le (show 0 ≤ at' by omega)
    have hk : k ≤ zs.length := by omega
    clear hout
    go_enter Try.func12, Try.ntmps12
    go_wp2_with fail
    refine (readAtI_in (fun v j _ => ∃ x kk, rdN zs k = .good x kk ∧ v = .int .i64 (wrap64 x) ∧ j = k + kk) (fun f => (f = 2 ∧ rdN zs k = .torn) ∨ (f = 3 ∧ rdN zs k = .bad)) a zs.length cap k zs w HB.out rfl hnc hcap hk (fun _ _ _ _ h => h) (fun _ _ _ h => h) (fun wr hr => (num_any _ a _ cap k zs wr hr HO.out).mono ?_)).mono ?_
    · rintro e w' ⟨⟨x, kk, hg, rfl, hrd⟩ | ⟨hg, rfl⟩ | ⟨hg, rfl⟩, hgr⟩
      · exact ⟨Or.inl ⟨_, _, rfl, hrd, x, kk, hg, rfl, rfl⟩, hgr⟩
      · exact ⟨Or.inr ⟨2, rfl, Or.inl ⟨rfl, hg⟩⟩, hgr⟩
      · exact ⟨Or.inr ⟨3, rfl, Or.inr ⟨rfl, hg⟩⟩, hgr⟩
    · rintro e w1 ⟨⟨v, j, rfl, x, kk, hg, rfl, rfl⟩ | ⟨f, rfl, hf⟩, hb⟩
      · have HV := hid' (gnV_good hg)
        have HB1 := hid' hb
        have E1 := hid' (show ((k + kk : Nat) : Int) = (k : Int) + (kk : Int) by omega)
        clear hb hg
        go_wp2_with fail
        refine bodyPost_ret (v := .tuple #[.int .i64 (wrap64 x), .int .i64 ((k : Int) + (kk : Int)), .bool true]) (by simp [results, Try.results12, go_sem]) rfl ⟨by rw [HV.out], HB1.out⟩
      · have HV : Hid (gnV zs k = .tuple #[.int .i64 0, .int .i64 0, .bool false]) := by
          rcases hf with ⟨_, h⟩ | ⟨_, h⟩
          · exact gnV_torn h
          · exact gnV_bad h
        have hf0 : (f == 0) = false := by rw [beq_eq_false_iff_ne]; rcases hf with ⟨h, _⟩ | ⟨h, _⟩ <;> omega
        have HB1 := hid' hb
        clear hb hf
        go_wp2_with fail
        refine bodyPost_ret (v := .tuple #[.int .i64 0, .int .i64 0, .bool false]) (by simp [results, Try.results12, go_sem]) rfl ⟨by rw [HV.out], HB1.out⟩

end Go.Proofs.Ytdcbmeiopfdkeaa
