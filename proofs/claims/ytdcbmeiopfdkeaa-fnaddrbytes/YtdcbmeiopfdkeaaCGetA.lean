/-
  Both GetAddr answer what the plain reading says, wherever they are asked to read.
-/
import Derived.Test.YtdcbmeiopfdkeaaCAtA
import Derived.Test.YtdcbmeiopfdkeaaAOk
namespace Go.Proofs.Ytdcbmeiopfdkeaa
open Go.RowKit

set_option maxHeartbeats 1000000 in
theorem l1In_any (x lo hi : Int) (w : World) :
    Calls Try.prog 51 #[.int .i64 x, .int .i64 lo, .int .i64 hi] w fun e w' => e = .returned (.bool (decide (lo ≤ x ∧ x ≤ hi))) ∧ w = w' := by
  by_cases h1 : lo ≤ x
  · by_cases h2 : x ≤ hi
    · rw [decide_eq_true (And.intro h1 h2)]
      go_enter Try.func51, Try.ntmps51
      go_wp2
      go_ret
      exact ⟨rfl, rfl⟩
    · rw [decide_eq_false (fun h => h2 h.2)]
      have d : decide (x ≤ hi) = false := decide_eq_false h2
      go_enter Try.func51, Try.ntmps51
      go_wp2
      go_ret
      exact ⟨rfl, rfl⟩
  · rw [decide_eq_false (fun h => h1 h.1)]
    have d : decide (lo ≤ x) = false := decide_eq_false h1
    go_enter Try.func51, Try.ntmps51
    go_wp2
    go_ret
    exact ⟨rfl, rfl⟩

theorem gaV_form (zs : List Int) (a : Int) : ∃ (s : Bool) (h l q : Int) (r : Bool), gaV zs a = .tuple #[.agg #[.bool s, .int .i64 h, .int .i64 l], .int .i64 q, .bool r] := by
  unfold gaV gaNo ga4 ga6; split
  · exact ⟨_, _, _, _, _, rfl⟩
  · split
    · exact ⟨_, _, _, _, _, rfl⟩
    · split
      · exact ⟨_, _, _, _, _, rfl⟩
      · exact ⟨_, _, _, _, _, rfl⟩

set_option maxHeartbeats 2000000 in
theorem iGetAddr_all (a : Option Addr) (cap : Nat) (zs : List Int) (at' : Int) (w : World) (hB : Byt w a zs) (ho : Oct zs) (hnc : zs.length ≤ cap) (hcap : zs.length ≤ 1000000000000 ∧ cap ≤ 9223372036854775807) :
    Calls Try.prog 26 #[.slice a zs.length cap, .int .i64 at'] w fun e w' => e = .returned (gaV zs at') ∧ Below w.heap.size w w' := by
  have HB := hid' (hB.later ((Below.refl _ w).alloc (Nat.le_refl _) (.cells #[.bool false, .int .i64 0, .int .i64 0] 38)))
  have HO := hid' ho
  clear hB ho
  by_cases hout : at' < 0 ∨ (zs.length : Int) < at'
  · have HV : Hid (gaV zs at' = gaNo) := by
      by_cases h : at' < 0
      · exact gaV_neg h
      · obtain ⟨k, rfl⟩ := Int.eq_ofNat_of_zero_le (show 0 ≤ at' by omega)
        exact gaV_no (fun hh => by omega) (fun hh => by omega)
    have HOut := hid' hout
    clear hout
    go_enter Try.func26, Try.ntmps26
    go_wp2_with fail
    refine (readAtA_out a zs.length cap at' _ _ HOut.out).mono ?_
    rintro e w1 ⟨rfl, hb⟩
    have hz1 : w.heap.size < w1.heap.size := by have := hb.size; simp at this; omega
    obtain ⟨hc, hf⟩ := olds (n := w.heap.size + 1) (hb.mono (by simp))
    have HB1 := hid' (((Below.refl _ w).alloc (Nat.le_refl _) _).trans (hb.mono (by simp)))
    clear hb
    go_wp2_with fail
    refine bodyPost_ret (v := gaNo) (by simp [gaNo, results, Try.results26, go_sem, hc, hz1]) rfl ⟨by rw [HV.out], ?_⟩
    repeat (first | with_reducible exact HB1.out | (with_reducible refine Below.setCell ?_ (by first | omega | (simp; done) | (simp; omega)) _) | (with_reducible refine Below.alloc ?_ (by first | omega | (simp; done) | (simp; omega)) _))
  · obtain ⟨k, rfl⟩ := Int.eq_ofNat_of_zero_le (show 0 ≤ at' by omega)
    have hk : k ≤ zs.length := by omega
    clear hout
    go_enter Try.func26, Try.ntmps26
    go_wp2_with fail
    refine (readAtA_in (fun s h l j => gaV zs (k : Int) = .tuple #[.agg #[.bool s, .int .i64 h, .int .i64 l], .int .i64 ((j : Nat) : Int), .bool true]) (fun f => f ≠ 0 ∧ gaV zs (k : Int) = gaNo) a zs.length cap k zs _ HB.out rfl hnc hcap hk (fun wr hr => (addr_any _ a _ cap k zs wr hr HO.out).mono ?_)).mono ?_
    · rintro e w' ⟨⟨s, h, l, j, hv, rfl, hrd⟩ | ⟨f, hv, hf, rfl⟩, hgr⟩
      · exact ⟨Or.inl ⟨s, h, l, j, rfl, hrd, hv⟩, hgr⟩
      · exact ⟨Or.inr ⟨f, rfl, hf, hv⟩, hgr⟩
    · rintro e w1 ⟨⟨s, h, l, j, rfl, hv⟩ | ⟨f, rfl, hf, hv⟩, hb⟩
      · have HV := hid' hv
        have hz1 : w.heap.size < w1.heap.size := by have := hb.size; simp at this; omega
        obtain ⟨hc, hf⟩ := olds (n := w.heap.size + 1) (hb.mono (by simp))
        have HB1 := hid' (((Below.refl _ w).alloc (Nat.le_refl _) _).trans (hb.mono (by simp)))
        clear hb hv
        go_wp2_with fail
        refine bodyPost_ret (v := .tuple #[.agg #[.bool s, .int .i64 h, .int .i64 l], .int .i64 (j : Int), .bool true]) (by simp [results, Try.results26, go_sem, hc, hz1]) rfl ⟨by rw [HV.out], ?_⟩
        repeat (first | with_reducible exact HB1.out | (with_reducible refine Below.setCell ?_ (by first | omega | (simp; done) | (simp; omega)) _) | (with_reducible refine Below.alloc ?_ (by first | omega | (simp; done) | (simp; omega)) _))
      · have HV := hid' hv
        have hf0 : (f == 0) = false := by rw [beq_eq_false_iff_ne]; exact hf
        have hz1 : w.heap.size < w1.heap.size := by have := hb.size; simp at this; omega
        obtain ⟨hc, hfr⟩ := olds (n := w.heap.size + 1) (hb.mono (by simp))
        have HB1 := hid' (((Below.refl _ w).alloc (Nat.le_refl _) _).trans (hb.mono (by simp)))
        clear hb hv hf
        go_wp2_with fail
        refine bodyPost_ret (v := gaNo) (by simp [gaNo, results, Try.results26, go_sem, hc, hz1]) rfl ⟨by rw [HV.out], ?_⟩
        repeat (first | with_reducible exact HB1.out | (with_reducible refine Below.setCell ?_ (by first | omega | (simp; done) | (simp; omega)) _) | (with_reducible refine Below.alloc ?_ (by first | omega | (simp; done) | (simp; omega)) _))

end Go.Proofs.Ytdcbmeiopfdkeaa
