/-
  Both GetText answer what the plain reading says, wherever they are asked to read.
-/
import Derived.Test.YtdcbmeiopfdkeaaCAtS
import Derived.Test.YtdcbmeiopfdkeaaCGetN
import Derived.Test.YtdcbmeiopfdkeaaCTxtI
namespace Go.Proofs.Ytdcbmeiopfdkeaa
open Go.RowKit

theorem gtV_form (zs : List Int) (a : Int) : ∃ (p : ByteArray) (q : Int) (r : Bool), gtV zs a = .tuple #[.string p, .int .i64 q, .bool r] := by
  unfold gtV gtNo; split
  · exact ⟨_, _, _, rfl⟩
  · split
    · split
      · exact ⟨_, _, _, rfl⟩
      · exact ⟨_, _, _, rfl⟩
    · exact ⟨_, _, _, rfl⟩

set_option maxHeartbeats 2000000 in
theorem iGetText_all (a : Option Addr) (cap : Nat) (zs : List Int) (at' : Int) (w : World) (hB : Byt w a zs) (ho : Oct zs) (hnc : zs.length ≤ cap) (hcap : zs.length ≤ 1000000000000 ∧ cap ≤ 9223372036854775807) :
    Calls Try.prog 19 #[.slice a zs.length cap, .int .i64 at'] w fun e w' => e = .returned (gtV zs at') ∧ Below w.heap.size w w' := by
  have HB := hid' hB
  have HO := hid' ho
  clear hB ho
  by_cases hout : at' < 0 ∨ (zs.length : Int) < at'
  · have HV : Hid (gtV zs at' = gtNo) := by
      by_cases h : at' < 0
      · exact gtV_neg h
      · obtain ⟨k, rfl⟩ := Int.eq_ofNat_of_zero_le (show 0 ≤ at' by omega)
        exact gtV_torn (rdF_none (List.getElem?_eq_none (by omega)))
    have HOut := hid' hout
    clear hout
    go_enter Try.func19, Try.ntmps19
    go_wp2_with fail
    refine (readAtS_out a zs.length cap at' _ w HOut.out).mono ?_
    rintro e w1 ⟨rfl, hb⟩
    have HB1 := hid' hb
    clear hb
    go_wp2_with fail
    exact bodyPost_ret (v := gtNo) (by simp [gtNo, results, Try.results19, go_sem]) rfl ⟨by rw [HV.out], HB1.out⟩
  · obtain ⟨k, rfl⟩ := Int.eq_ofNat_of_zero_le (show 0 ≤ at' by omega)
    have hk : k ≤ zs.length := by omega
    clear hout
    go_enter Try.func19, Try.ntmps19
    go_wp2_with fail
    refine (readAtS_in (fun v j _ => ∃ s, v = .string s ∧ gtV zs (k : Int) = .tuple #[.string s, .int .i64 ((j : Nat) : Int), .bool true]) (fun f => f ≠ 0 ∧ gtV zs (k : Int) = gtNo) a zs.length cap k zs w HB.out rfl hnc hcap hk (fun _ _ _ _ h => h) (fun _ _ _ h => h) (fun wr hr => (text_any _ a _ cap k zs wr hr HO.out).mono ?_)).mono ?_
    · rintro e w' ⟨⟨s, j, hv, rfl, hrd⟩ | ⟨f, hv, hf, rfl⟩, hgr⟩
      · exact ⟨Or.inl ⟨_, j, rfl, hrd, s, rfl, hv⟩, hgr⟩
      · exact ⟨Or.inr ⟨f, rfl, hf, hv⟩, hgr⟩
    · rintro e w1 ⟨⟨v, j, rfl, s, rfl, hv⟩ | ⟨f, rfl, hf, hv⟩, hb⟩
      · have HV := hid' hv
        have HB1 := hid' hb
        clear hb hv
        go_wp2_with fail
        exact bodyPost_ret (v := .tuple #[.string s, .int .i64 (j : Int), .bool true]) (by simp [results, Try.results19, go_sem]) rfl ⟨by rw [HV.out], HB1.out⟩
      · have HV := hid' hv
        have hf0 : (f == 0) = false := by rw [beq_eq_false_iff_ne]; exact hf
        have HB1 := hid' hb
        clear hb hf hv
        go_wp2_with fail
        exact bodyPost_ret (v := gtNo) (by simp [gtNo, results, Try.results19, go_sem]) rfl ⟨by rw [HV.out], HB1.out⟩

end Go.Proofs.Ytdcbmeiopfdkeaa
