/-
  Both AddTo return one and the same pair, whose address is right and whose words are of 64 bits.
-/
import Derived.Test.YtkmfbbcofojfaadLAddTo
namespace Go.Proofs.Ytkmfbbcofojfaad
open Go.RowKit

theorem wrap64_bd (x : Int) : -9223372036854775808 ≤ wrap64 x ∧ wrap64 x ≤ 9223372036854775807 := by unfold wrap64; omega

theorem addTo_more (s : Bool) (h l n : Int) (wh : -9223372036854775808 ≤ h ∧ h ≤ 9223372036854775807) (wl : -9223372036854775808 ≤ l ∧ l ≤ 9223372036854775807) (wn : n ≤ 9223372036854775807) :
    ∃ (S : Bool) (H L : Int) (ok : Bool), okB S H L = true ∧ (-9223372036854775808 ≤ H ∧ H ≤ 9223372036854775807) ∧ (-9223372036854775808 ≤ L ∧ L ≤ 9223372036854775807) ∧
      (∀ w : World, Calls Try.prog 27 #[.agg #[.bool s, .int .i64 h, .int .i64 l], .int .i64 n] w fun e w' => e = .returned (.tuple #[.agg #[.bool S, .int .i64 H, .int .i64 L], .bool ok]) ∧ Below w.heap.size w w') ∧
      (∀ w : World, Calls Try.prog 29 #[.agg #[.bool s, .int .i64 h, .int .i64 l], .int .i64 n] w fun e w' => e = .returned (.tuple #[.agg #[.bool S, .int .i64 H, .int .i64 L], .bool ok]) ∧ Below w.heap.size w w') := by
  obtain ⟨S, H, L, hz, bH, bL, hS⟩ := Nrm_ex s h l wh wl
  have z : okB false 0 0 = true := okB_yes 0 (by omega) (by omega)
  have zb : (-9223372036854775808 : Int) ≤ 0 ∧ (0 : Int) ≤ 9223372036854775807 := by omega
  by_cases hn : n < 0
  · exact ⟨false, 0, 0, false, z, zb, zb, sAddTo_neg s h l n S H L hz hn, iAddTo_neg s h l n hn⟩
  have hn0 : 0 ≤ n := by omega
  have a1 := add64 (IntKind.u64.wrap L) (IntKind.u64.wrap n) 0 (Word_u _) (Word_u _) Bit0
  cases S
  · obtain ⟨rfl, h0, h1⟩ := hS rfl
    have ec := four_c L n h0 h1 hn0 wn
    rw [ec] at a1
    have a2 := add64 (IntKind.u64.wrap 0) 0 0 (Word_u _) Word0 Bit0
    by_cases hle : n ≤ 4294967295 - L
    · have i := iAddTo_ok s h l n false 0 L _ 0 _ _ hz hn0 a1 a2 (past_0 0) (by
        show okB _ _ _ = true
        rw [hi_0 0 (by omega), four_ok L n h0 hn0 hle]; exact four_yes L n h0 hn0 hle)
      rw [hi_0 0 (by omega), four_ok L n h0 hn0 hle] at i
      exact ⟨false, 0, L + n, true, four_yes L n h0 hn0 hle, zb, by omega, sAddTo_four s h l n 0 L hz h0 h1 hn0 wn hle, i⟩
    · have i := iAddTo_bad s h l n false 0 L _ 0 _ _ hz hn0 a1 a2 (past_0 0) (by
        show okB _ _ _ = false
        rw [hi_0 0 (by omega)]; exact four_no L n h0 h1 hn0 wn (by omega))
      exact ⟨false, 0, 0, false, z, zb, zb, sAddTo_fourno s h l n 0 L hz h0 h1 hn0 wn (by omega), i⟩
  · by_cases hc : IntKind.u64.wrap L + IntKind.u64.wrap n < 18446744073709551616
    · rw [add_c0 L n hc] at a1
      have a2 := add64 (IntKind.u64.wrap H) 0 0 (Word_u _) Word0 Bit0
      have i := iAddTo_ok s h l n true H L _ 0 _ _ hz hn0 a1 a2 (past_0 H) (okB_t _ _)
      rw [hi_0 H bH, lo_eq] at i
      exact ⟨true, H, _, true, okB_t _ _, bH, wrap64_bd _, sAddTo_six s h l n H L hz hn0 (less_0 L n hc), i⟩
    · rw [add_c1 L n hc] at a1
      have a2 := add64 (IntKind.u64.wrap H) 0 1 (Word_u _) Word0 Bit1
      cases hg : (wrap64 (IntKind.u64.wrap (IntKind.u64.wrap H + 1)) == 0)
      · have i := iAddTo_ok s h l n true H L _ 1 _ _ hz hn0 a1 a2 (past_1 H hg) (okB_t _ _)
        rw [hi_1, lo_eq] at i
        exact ⟨true, _, _, true, okB_t _ _, wrap64_bd _, wrap64_bd _, sAddTo_sixc s h l n H L hz hn0 (less_1 L n hc) hg, i⟩
      · have i := iAddTo_past s h l n true H L _ 1 _ _ hz hn0 a1 a2 (past_2 H hg)
        exact ⟨false, 0, 0, false, z, zb, zb, sAddTo_sixno s h l n H L hz hn0 (less_1 L n hc) hg, i⟩

end Go.Proofs.Ytkmfbbcofojfaad
