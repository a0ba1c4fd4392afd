/-
  What is added is the gap: the program's AddTo, GapTo and CmpAddr of a right address, told by numbers.
-/
import Derived.Test.YtofnnpjadehgmaaDoorLAddTo
import Derived.Test.YtofnnpjadehgmaaDoorAGapI
import Derived.Test.YtofnnpjadehgmaaDoorLCmpAddr
import Derived.Test.YtofnnpjadehgmaaDoorPRow
namespace Go.Proofs.YtofnnpjadehgmaaDoor
open Go.RowKit

/-- A word without its sign. -/
def uwd (x : Int) : Int := x % 18446744073709551616
theorem uwd_is (x : Int) : IntKind.u64.wrap x = uwd x := IntKind.wrap_u64 x
theorem uwd_bd (x : Int) : 0 ≤ uwd x ∧ uwd x < 18446744073709551616 := by unfold uwd; omega
/-- b is n behind a. -/
def Behind (h l H L n : Int) : Prop := uwd H * 18446744073709551616 + uwd L = uwd h * 18446744073709551616 + uwd l + n
def AddI (s : Bool) (h l n : Int) (S : Bool) (H L : Int) (ok : Bool) : Prop := ok = true → 0 ≤ n ∧ S = s ∧ okB s H L = true ∧ (-9223372036854775808 ≤ H ∧ H ≤ 9223372036854775807) ∧ (-9223372036854775808 ≤ L ∧ L ≤ 9223372036854775807) ∧ Behind h l H L n
theorem w64_bd (x : Int) : -9223372036854775808 ≤ wrap64 x ∧ wrap64 x ≤ 9223372036854775807 := by rw [wrap64]; omega
theorem uwd_w64 (x : Int) : uwd (wrap64 x) = uwd x := by unfold uwd; rw [wrap64]; omega

theorem addTo_val (s : Bool) (h l n : Int) (hok : okB s h l = true) (wh : -9223372036854775808 ≤ h ∧ h ≤ 9223372036854775807) (wl : -9223372036854775808 ≤ l ∧ l ≤ 9223372036854775807) (wn : n ≤ 9223372036854775807) :
    ∃ (S : Bool) (H L : Int) (ok : Bool),
      (∀ w : World, Calls Tryd.prog 13 #[.agg #[.bool s, .int .i64 h, .int .i64 l], .int .i64 n] w fun e w' => e = .returned (.tuple #[.agg #[.bool S, .int .i64 H, .int .i64 L], .bool ok]) ∧ Below w.heap.size w w') ∧
      (∀ w : World, Calls Tryd.prog 12 #[.agg #[.bool s, .int .i64 h, .int .i64 l], .int .i64 n] w fun e w' => e = .returned (.tuple #[.agg #[.bool S, .int .i64 H, .int .i64 L], .bool ok]) ∧ Below w.heap.size w w') ∧ AddI s h l n S H L ok := by
  have hz : Nrm s h l s h l := Or.inl ⟨hok, rfl, rfl, rfl⟩
  by_cases hn : n < 0
  · exact ⟨false, 0, 0, false, sAddTo_neg s h l n s h l hz hn, iAddTo_neg s h l n hn, fun e => by cases e⟩
  have hn0 : 0 ≤ n := by omega
  have a1 := add64 (IntKind.u64.wrap l) (IntKind.u64.wrap n) 0 (Word_u _) (Word_u _) Bit0
  cases s
  · have h3 : h = 0 ∧ 0 ≤ l ∧ l ≤ 4294967295 := by simp [okB] at hok; exact hok
    obtain ⟨rfl, h0, h1⟩ := h3
    have ec := four_c l n h0 h1 hn0 wn
    rw [ec] at a1
    have a2 := add64 (IntKind.u64.wrap 0) 0 0 (Word_u _) Word0 Bit0
    by_cases hle : n ≤ 4294967295 - l
    · have i := iAddTo_ok false 0 l n false 0 l _ 0 _ _ hz hn0 a1 a2 (past_0 0) (by
        show okB _ _ _ = true
        rw [hi_0 0 (by omega), four_ok l n h0 hn0 hle]; exact four_yes l n h0 hn0 hle)
      rw [hi_0 0 (by omega), four_ok l n h0 hn0 hle] at i
      exact ⟨false, 0, l + n, true, sAddTo_four false 0 l n 0 l hz h0 h1 hn0 wn hle, i, fun _ => ⟨hn0, rfl, four_yes l n h0 hn0 hle, by omega, by omega, by unfold Behind uwd; omega⟩⟩
    · have i := iAddTo_bad false 0 l n false 0 l _ 0 _ _ hz hn0 a1 a2 (past_0 0) (by
        show okB _ _ _ = false
        rw [hi_0 0 (by omega)]; exact four_no l n h0 h1 hn0 wn (by omega))
      exact ⟨false, 0, 0, false, sAddTo_fourno false 0 l n 0 l hz h0 h1 hn0 wn (by omega), i, fun e => by cases e⟩
  · by_cases hc : IntKind.u64.wrap l + IntKind.u64.wrap n < 18446744073709551616
    · rw [add_c0 l n hc] at a1
      have a2 := add64 (IntKind.u64.wrap h) 0 0 (Word_u _) Word0 Bit0
      have i := iAddTo_ok true h l n true h l _ 0 _ _ hz hn0 a1 a2 (past_0 h) (okB_t _ _)
      rw [hi_0 h wh, lo_eq] at i
      refine ⟨true, h, _, true, sAddTo_six true h l n h l hz hn0 (less_0 l n hc), i, fun _ => ⟨hn0, rfl, okB_t _ _, wh, w64_bd _, ?_⟩⟩
      unfold Behind
      rw [uwd_w64, uwd_is, uwd_is, uwd_is] at *
      unfold uwd at *
      omega
    · rw [add_c1 l n hc] at a1
      have a2 := add64 (IntKind.u64.wrap h) 0 1 (Word_u _) Word0 Bit1
      cases hg : (wrap64 (IntKind.u64.wrap (IntKind.u64.wrap h + 1)) == 0)
      · have i := iAddTo_ok true h l n true h l _ 1 _ _ hz hn0 a1 a2 (past_1 h hg) (okB_t _ _)
        rw [hi_1, lo_eq] at i
        refine ⟨true, _, _, true, sAddTo_sixc true h l n h l hz hn0 (less_1 l n hc) hg, i, fun _ => ⟨hn0, rfl, okB_t _ _, w64_bd _, w64_bd _, ?_⟩⟩
        have hg' : wrap64 (IntKind.u64.wrap (IntKind.u64.wrap h + 1)) ≠ 0 := by rw [beq_eq_false_iff_ne] at hg; exact hg
        unfold Behind
        rw [uwd_w64, uwd_w64]
        simp only [uwd_is] at *
        rw [wrap64] at hg'
        unfold uwd at *
        omega
      · have i := iAddTo_past true h l n true h l _ 1 _ _ hz hn0 a1 a2 (past_2 h hg)
        exact ⟨false, 0, 0, false, sAddTo_sixno true h l n h l hz hn0 (less_1 l n hc) hg, i, fun e => by cases e⟩

theorem gap_val (s : Bool) (h l H L n : Int) (hok : okB s h l = true) (hok' : okB s H L = true) (hn : 0 ≤ n) (wn : n ≤ 9223372036854775807) (hb : Behind h l H L n) (w : World) :
    Calls Tryd.prog 14 #[.agg #[.bool s, .int .i64 h, .int .i64 l], .agg #[.bool s, .int .i64 H, .int .i64 L]] w fun e w' => e = .returned (.tuple #[.int .i64 n, .bool true]) ∧ Below w.heap.size w w' := by
  have hz : Nrm s h l s h l := Or.inl ⟨hok, rfl, rfl, rfl⟩
  have hz' : Nrm s H L s H L := Or.inl ⟨hok', rfl, rfl, rfl⟩
  have a1 := sub64 (IntKind.u64.wrap L) (IntKind.u64.wrap l) 0 (WordG_u _) (WordG_u _) BitG0
  have a2 := sub64 (IntKind.u64.wrap H) (IntKind.u64.wrap h) (subB (IntKind.u64.wrap L) (IntKind.u64.wrap l) 0) (WordG_u _) (WordG_u _) (subB_bit _ _ _)
  have b1 := uwd_bd h; have b2 := uwd_bd l; have b3 := uwd_bd H; have b4 := uwd_bd L
  have e1 : subD (IntKind.u64.wrap L) (IntKind.u64.wrap l) 0 = n := by
    simp only [uwd_is, subD]; unfold Behind at hb; omega
  have key : (uwd L < uwd l ∧ uwd H = uwd h + 1) ∨ (¬ uwd L < uwd l ∧ uwd H = uwd h) := by unfold Behind at hb; omega
  have e2 : subD (IntKind.u64.wrap H) (IntKind.u64.wrap h) (subB (IntKind.u64.wrap L) (IntKind.u64.wrap l) 0) = 0 := by
    simp only [uwd_is, subD, subB]
    rcases key with ⟨k1, k2⟩ | ⟨k1, k2⟩
    · rw [if_pos (by omega)]; omega
    · rw [if_neg (by omega)]; omega
  have e3 : subB (IntKind.u64.wrap H) (IntKind.u64.wrap h) (subB (IntKind.u64.wrap L) (IntKind.u64.wrap l) 0) = 0 := by
    simp only [uwd_is, subB]
    rcases key with ⟨k1, k2⟩ | ⟨k1, k2⟩
    · rw [if_pos (show uwd L < uwd l + 0 by omega), if_neg (by omega)]
    · rw [if_neg (show ¬ uwd L < uwd l + 0 by omega), if_neg (by omega)]
  rw [e1] at a1
  rw [e2, e3] at a2
  exact iGap_ok s h l s H L s h l H L _ _ _ _ hz hz' a1 a2 rfl rfl wn hn w

/-- How they compare. -/
def cmpV (n : Int) : Int := if n = 0 then 0 else -1
theorem cmp_val (s : Bool) (h l H L n : Int) (hok : okB s h l = true) (hok' : okB s H L = true) (wh : -9223372036854775808 ≤ h ∧ h ≤ 9223372036854775807) (wh' : -9223372036854775808 ≤ H ∧ H ≤ 9223372036854775807) (hn : 0 ≤ n) (hb : Behind h l H L n) :
    (∀ w : World, Calls Tryd.prog 15 #[.agg #[.bool s, .int .i64 h, .int .i64 l], .agg #[.bool s, .int .i64 H, .int .i64 L]] w fun e w' => e = .returned (.int .i64 (cmpV n)) ∧ Below w.heap.size w w') ∧
    (∀ w : World, Calls Tryd.prog 15 #[.agg #[.bool s, .int .i64 H, .int .i64 L], .agg #[.bool s, .int .i64 h, .int .i64 l]] w fun e w' => e = .returned (.int .i64 (-cmpV n)) ∧ Below w.heap.size w w') := by
  have hz : Nrm s h l s h l := Or.inl ⟨hok, rfl, rfl, rfl⟩
  have hz' : Nrm s H L s H L := Or.inl ⟨hok', rfl, rfl, rfl⟩
  obtain ⟨r0, r1, r2, hr, rt, rf, r2e⟩ := Rank_ex s h l
  obtain ⟨q0, q1, q2, hr', qt, qf, q2e⟩ := Rank_ex s H L
  have hi := iCmp_ne s h l s H L s h l s H L r0 r1 r2 q0 q1 q2 hz hr hz' hr'
  have hj := iCmp_ne s H L s h l s H L s h l q0 q1 q2 r0 r1 r2 hz' hr' hz hr
  have b1 := uwd_bd h; have b2 := uwd_bd l; have b3 := uwd_bd H; have b4 := uwd_bd L
  rw [uwd_is] at r2e q2e rt qt
  subst r2e q2e
  have key : cmp3 r0 r1 (uwd l) q0 q1 (uwd L) = cmpV n ∧ cmp3 q0 q1 (uwd L) r0 r1 (uwd l) = -cmpV n := by
    unfold Behind at hb
    unfold cmpV
    cases s
    · obtain ⟨rfl, rfl⟩ := rf rfl
      obtain ⟨rfl, rfl⟩ := qf rfl
      have e0 : h = 0 := by simp [okB] at hok; exact hok.1
      have e1 : H = 0 := by simp [okB] at hok'; exact hok'.1
      subst e0 e1
      by_cases z : n = 0
      · have e : uwd L = uwd l := by omega
        rw [if_pos z, e, cmp3_eq]; exact ⟨rfl, rfl⟩
      · rw [if_neg z, cmp3_lt2 (by omega), cmp3_gt2 (by omega)]; exact ⟨rfl, rfl⟩
    · obtain ⟨rfl, rfl⟩ := rt rfl
      obtain ⟨rfl, rfl⟩ := qt rfl
      by_cases z : n = 0
      · have e : uwd L = uwd l := by omega
        have e' : uwd H = uwd h := by omega
        rw [if_pos z, e, e', cmp3_eq]; exact ⟨rfl, rfl⟩
      · rw [if_neg z]
        by_cases k : uwd h < uwd H
        · rw [cmp3_lt1 k, cmp3_gt1 k]; exact ⟨rfl, rfl⟩
        · have e' : uwd H = uwd h := by omega
          rw [e', cmp3_lt2 (by omega), cmp3_gt2 (by omega)]; exact ⟨rfl, rfl⟩
  rw [key.1] at hi
  rw [key.2] at hj
  exact ⟨hi, hj⟩

end Go.Proofs.YtofnnpjadehgmaaDoor
