/-
  The specification's text of an address of 128 bits, by its plain twin; nothing old in memory turns.
-/
import Derived.Test.YtofnnpjadehgmaaDoorDSTxt
import Derived.Test.YtofnnpjadehgmaaDoorDPlain
namespace Go.Proofs.YtofnnpjadehgmaaDoor
open Go.RowKit

theorem grp_int (S : Bool) (H L : Int) (i : Int) (h0 : 0 ≤ i) (h1 : i < 8) (w : World) :
    Calls Tryd.prog 55 #[.agg #[.bool S, .int .i64 H, .int .i64 L], .int .i64 i] w fun e w' => e = .returned (.int .u64 (grp H L i.toNat)) ∧ Below w.heap.size w w' := by
  obtain ⟨n, rfl⟩ := Int.eq_ofNat_of_zero_le h0
  exact grp_any S H L n (by omega) w
theorem best_bd (g : Nat → Int) : ∀ k, k ≤ 8 → (best g k).1 ≤ 8 ∧ 1 ≤ (best g k).2 ∧ (best g k).2 ≤ 8 ∧ ((best g k).1 < 8 → (best g k).1 + (best g k).2 ≤ 8)
  | 0, _ => by simp [best]
  | i + 1, h => by
      have ih := best_bd g i (by omega)
      have hr := run_le g (8 - i) i
      unfold best
      split
      · refine ⟨by omega, ?_, by omega, fun _ => ?_⟩ <;> simp only <;> omega
      · exact ih
theorem asm_at (g : Nat → Int) (hx : Int → List UInt8) (f l i : Nat) (hi : i < 8) : asm g hx f l (8 - i) 0 = if i = f then [58, 58] ++ asm g hx f l (7 - i) (l - 1) else (if 0 < i ∧ i ≠ f + l then [58] else []) ++ hx (g i) ++ asm g hx f l (7 - i) 0 := by
  obtain ⟨k, hk⟩ : ∃ k, 8 - i = k + 1 := ⟨7 - i, by omega⟩
  rw [hk, show 7 - i = k from by omega, asm, show 7 - k = i from by omega]
theorem hexs_len (x : Int) : (hexs x).length ≤ 4 := by unfold hexs; split; simp [l0]; split; simp [l1]; split <;> simp [l2, l3]

set_option maxHeartbeats 4000000 in
theorem sText_six (s : Bool) (h l0' H L : Int) (hz : Nrm s h l0' true H L) (w : World) :
    Calls Tryd.prog 41 #[.agg #[.bool s, .int .i64 h, .int .i64 l0']] w fun e w' => e = .returned (.string ⟨(asm (grp H L) hexs (best (grp H L) 8).1 (best (grp H L) 8).2 8 0).toArray⟩) ∧ Below w.heap.size w w' := by
  go_enter Tryd.func41, Tryd.ntmps41
  go_wp2_with fail
  refine (l1Addr_any _ _ _ _ _ _ hz _).mono ?_
  rintro e w1 ⟨rfl, hb⟩
  obtain ⟨hc, hf⟩ := olds (n := w.heap.size + 1) (hb.mono (by simp))
  have hz0 : w.heap.size < w1.heap.size := by have := hb.size; simp at this; omega
  have b1 : Below w.heap.size w w1 := ((Below.refl _ w).alloc (Nat.le_refl _) _).trans (hb.mono (by simp))
  have HB : Hid (((((w1.setCell ⟨w.heap.size, 0, none⟩ (.bool true)).setCell ⟨w.heap.size, 1, none⟩ (.int .i64 H)).setCell ⟨w.heap.size, 2, none⟩ (.int .i64 L)).cell? ⟨w.heap.size, 0, none⟩ = some (.bool true) ∧ (((w1.setCell ⟨w.heap.size, 0, none⟩ (.bool true)).setCell ⟨w.heap.size, 1, none⟩ (.int .i64 H)).setCell ⟨w.heap.size, 2, none⟩ (.int .i64 L)).cell? ⟨w.heap.size, 1, none⟩ = some (.int .i64 H) ∧ (((w1.setCell ⟨w.heap.size, 0, none⟩ (.bool true)).setCell ⟨w.heap.size, 1, none⟩ (.int .i64 H)).setCell ⟨w.heap.size, 2, none⟩ (.int .i64 L)).cell? ⟨w.heap.size, 2, none⟩ = some (.int .i64 L)) ∧ Below w.heap.size w (((w1.setCell ⟨w.heap.size, 0, none⟩ (.bool true)).setCell ⟨w.heap.size, 1, none⟩ (.int .i64 H)).setCell ⟨w.heap.size, 2, none⟩ (.int .i64 L)) ∧ w.heap.size < (((w1.setCell ⟨w.heap.size, 0, none⟩ (.bool true)).setCell ⟨w.heap.size, 1, none⟩ (.int .i64 H)).setCell ⟨w.heap.size, 2, none⟩ (.int .i64 L)).heap.size) := ⟨⟨by simp [go_sem, hc], by simp [go_sem, hc], by simp [go_sem, hc]⟩, ((b1.setCell (by simp) _).setCell (by simp) _).setCell (by simp) _, by simpa using hz0⟩
  go_wp2_with fail
  go_loopw [5, 6, 7] (fun t5 t6 t7 x => ∃ k : Nat, k ≤ 8 ∧ t7 = .int .i64 k ∧ t5 = .int .i64 ((best (grp H L) k).1 : Nat) ∧ t6 = .int .i64 ((best (grp H L) k).2 : Nat) ∧ (x.cell? ⟨w.heap.size, 0, none⟩ = some (.bool true) ∧ x.cell? ⟨w.heap.size, 1, none⟩ = some (.int .i64 H) ∧ x.cell? ⟨w.heap.size, 2, none⟩ = some (.int .i64 L)) ∧ Below w.heap.size w x ∧ w.heap.size < x.heap.size) (fun _ _ t7 _ => (8 - intOf t7).toNat)
  case atStart => exact ⟨0, by omega, rfl, rfl, rfl, HB.out⟩
  case round =>
    obtain ⟨k, hk, rfl, rfl, rfl, hBx, hBw, hBs⟩ := hrel
    obtain ⟨wo, rfl⟩ : ∃ wo : World, wo = wr := ⟨_, rfl⟩
    have bd := best_bd (grp H L) k hk
    obtain ⟨f, hF⟩ : ∃ f, f = (best (grp H L) k).1 := ⟨_, rfl⟩
    obtain ⟨l, hL⟩ : ∃ l, l = (best (grp H L) k).2 := ⟨_, rfl⟩
    rw [← hF, ← hL] at bd ⊢
    have HF : Hid (f = (best (grp H L) k).1) := hF
    have HL : Hid (l = (best (grp H L) k).2) := hL
    clear hF hL
    obtain ⟨x0, x1, x2⟩ := hBx
    by_cases hk8 : k < 8
    · have hkb : decide ((k : Int) < 8) = true := by simp; omega
      go_wp2_with fail
      go_loopw [8] (fun t8 y => ∃ m : Nat, k + m ≤ 8 ∧ t8 = .int .i64 m ∧ Hid (∀ j, j < m → grp H L (k + j) = 0) ∧ (y.cell? ⟨w.heap.size, 0, none⟩ = some (.bool true) ∧ y.cell? ⟨w.heap.size, 1, none⟩ = some (.int .i64 H) ∧ y.cell? ⟨w.heap.size, 2, none⟩ = some (.int .i64 L)) ∧ Below w.heap.size w y ∧ w.heap.size < y.heap.size) (fun t8 _ => (8 - intOf t8).toNat)
      case atStart => exact ⟨0, by omega, rfl, fun j hj => by omega, ⟨x0, x1, x2⟩, hBw, hBs⟩
      case round =>
        obtain ⟨m, hm, rfl, HA, hBx, hBw, hBs⟩ := hrel
        clear x0 x1 x2
        obtain ⟨x0, x1, x2⟩ := hBx
        by_cases hm8 : k + m < 8
        · go_wp2_with fail
          refine (grp_int true H L _ (by omega) (by omega) _).mono ?_
          rw [show ((k : Int) + (m : Int)).toNat = k + m from by omega]
          obtain ⟨v, hv⟩ : ∃ v, v = grp H L (k + m) := ⟨_, rfl⟩
          rw [← hv]
          have HV : Hid (v = grp H L (k + m)) := hv
          clear hv
          rintro e w3 ⟨rfl, hb3⟩
          have st3 : (w3.cell? ⟨w.heap.size, 0, none⟩ = some (.bool true) ∧ w3.cell? ⟨w.heap.size, 1, none⟩ = some (.int .i64 H) ∧ w3.cell? ⟨w.heap.size, 2, none⟩ = some (.int .i64 L)) ∧ Below w.heap.size w w3 ∧ w.heap.size < w3.heap.size := ⟨⟨(hb3.cell hBs).trans x0, (hb3.cell hBs).trans x1, (hb3.cell hBs).trans x2⟩, hBw.trans (hb3.mono (by omega)), by have := hb3.size; omega⟩
          obtain ⟨⟨q0, q1, q2⟩, r1, r2⟩ := st3
          cases hv0 : (v == 0)
          · have hne : grp H L (k + m) ≠ 0 := by have := HV.out; simp at hv0; omega
            have HN : Hid (grp H L (k + m) ≠ 0) := hne
            clear hne
            have hr : run (grp H L) (8 - k) k = m := run_is _ _ _ _ (by omega) HA.out (Or.inr HN.out)
            have hbs : Hid (best (grp H L) (k + 1) = if m > l then (k, m) else best (grp H L) k) := by show best (grp H L) (k + 1) = _; rw [best, hr, ← HL.out]
            clear hr
            by_cases hgt : l < m
            · go_wp2
              refine ⟨⟨k + 1, by omega, by go_num, ?_, ?_, ⟨q0, q1, q2⟩, r1, r2⟩, by simp [intOf]; omega⟩
              · rw [hbs.out, if_pos hgt]
              · rw [hbs.out, if_pos hgt]
            · go_wp2
              refine ⟨⟨k + 1, by omega, by go_num, ?_, ?_, ⟨q0, q1, q2⟩, r1, r2⟩, by simp [intOf]; omega⟩
              · rw [hbs.out, if_neg hgt, HF.out]
              · rw [hbs.out, if_neg hgt, HL.out]
          · have hA2 : Hid (∀ j, j < m + 1 → grp H L (k + j) = 0) := by
              show ∀ j, j < m + 1 → grp H L (k + j) = 0
              intro j hj
              by_cases e : j = m
              · subst e; have := HV.out; simp at hv0; omega
              · exact HA.out j (by omega)
            go_wp2
            go_roundw
            case rel => exact ⟨m + 1, by omega, by go_num, hA2, ⟨q0, q1, q2⟩, r1, r2⟩
            case measure => first | (simp [intOf]; done) | (simp [intOf]; omega)
        · have hme : m = 8 - k := by omega
          have HM : Hid (m = 8 - k) := hme
          clear hme
          have hr : run (grp H L) (8 - k) k = m := run_is _ _ _ _ (by omega) HA.out (Or.inl HM.out)
          have hbs : Hid (best (grp H L) (k + 1) = if m > l then (k, m) else best (grp H L) k) := by show best (grp H L) (k + 1) = _; rw [best, hr, ← HL.out]
          clear hr
          by_cases hgt : l < m
          · go_wp2
            refine ⟨⟨k + 1, by omega, by go_num, ?_, ?_, ⟨x0, x1, x2⟩, hBw, hBs⟩, by simp [intOf]; omega⟩
            · rw [hbs.out, if_pos hgt]
            · rw [hbs.out, if_pos hgt]
          · go_wp2
            refine ⟨⟨k + 1, by omega, by go_num, ?_, ?_, ⟨x0, x1, x2⟩, hBw, hBs⟩, by simp [intOf]; omega⟩
            · rw [hbs.out, if_neg hgt, HF.out]
            · rw [hbs.out, if_neg hgt, HL.out]
    · have hk9 : k = 8 := by omega
      subst hk9
      have HT : Hid ([] ++ asm (grp H L) hexs f l 8 0 = asm (grp H L) hexs (best (grp H L) 8).1 (best (grp H L) 8).2 8 0) := by show [] ++ _ = _; rw [← HF.out, ← HL.out]; rfl
      obtain ⟨TEXT, hTX⟩ : ∃ TEXT, TEXT = asm (grp H L) hexs (best (grp H L) 8).1 (best (grp H L) 8).2 8 0 := ⟨_, rfl⟩
      rw [← hTX] at HT
      have HTX : Hid (TEXT = asm (grp H L) hexs (best (grp H L) 8).1 (best (grp H L) 8).2 8 0) := hTX
      clear hTX
      clear HF HL
      go_wp2_with fail
      go_loopw [9, 10] (fun t9 t10 x => ∃ (i : Nat) (T : List UInt8), i ≤ 8 ∧ t10 = .int .i64 i ∧ t9 = .string ⟨T.toArray⟩ ∧ T.length ≤ 5 * i ∧ Hid (T ++ asm (grp H L) hexs f l (8 - i) 0 = TEXT) ∧ (x.cell? ⟨w.heap.size, 0, none⟩ = some (.bool true) ∧ x.cell? ⟨w.heap.size, 1, none⟩ = some (.int .i64 H) ∧ x.cell? ⟨w.heap.size, 2, none⟩ = some (.int .i64 L)) ∧ Below w.heap.size w x ∧ w.heap.size < x.heap.size) (fun _ t10 _ => (8 - intOf t10).toNat)
      case atStart => exact ⟨0, [], by omega, rfl, rfl, by simp, HT, ⟨x0, x1, x2⟩, hBw, hBs⟩
      case round =>
        obtain ⟨i, T, hi, rfl, rfl, hTl, HT2, hBx, hBw, hBs⟩ := hrel
        clear x0 x1 x2 HT
        obtain ⟨x0, x1, x2⟩ := hBx
        by_cases hi8 : i < 8
        · by_cases hif : i = f
          · subst hif
            have HAS : Hid (asm (grp H L) hexs i l (8 - i) 0 = [58, 58] ++ asm (grp H L) hexs i l (8 - (i + l)) 0) := by
              show _ = _
              rw [asm_at _ _ _ _ _ hi8, if_pos rfl, asm_skip _ _ _ _ _ _ (by omega), show 7 - i - (l - 1) = 8 - (i + l) from by omega]
            go_wp2
            go_roundw
            case rel =>
              refine ⟨i + l, T ++ [58, 58], by omega, by go_num, congrArg Value.string (ba_app T [58, 58]), by simp; omega, ?_, ⟨x0, x1, x2⟩, hBw, hBs⟩
              show _ ++ _ = _
              rw [← HT2.out, HAS.out, List.append_assoc]
            case measure => first | (simp [intOf]; done) | (simp [intOf]; omega)
          have hne : ((i : Int) == (f : Int)) = false := by rw [beq_eq_false_iff_ne]; omega
          by_cases hi0 : i = 0
          · subst hi0
            have HAS : Hid (asm (grp H L) hexs f l (8 - 0) 0 = hexs (grp H L 0) ++ asm (grp H L) hexs f l (7 - 0) 0) := by
              show _ = _
              rw [asm_at _ _ _ _ _ hi8, if_neg hif, if_neg (by omega)]; rfl
            clear hif
            go_wp2_with fail
            refine (grp_int true H L _ (by omega) (by omega) _).mono ?_
            obtain ⟨v, hv⟩ : ∃ v, v = grp H L 0 := ⟨_, rfl⟩
            have vb := grp_bd H L 0
            rw [← hv] at vb
            simp only [Int.toNat_zero]
            rw [← hv]
            obtain ⟨D, hD⟩ : ∃ D, D = hexs v := ⟨_, rfl⟩
            have hDl : D.length ≤ 4 := by rw [hD]; exact hexs_len _
            have HV : Hid (hexs (grp H L 0) = D) := by show _ = D; rw [hD, hv]
            have HD : Hid (D = hexs v) := hD
            clear hv hD
            rintro e w3 ⟨rfl, hb3⟩
            have st3 : (w3.cell? ⟨w.heap.size, 0, none⟩ = some (.bool true) ∧ w3.cell? ⟨w.heap.size, 1, none⟩ = some (.int .i64 H) ∧ w3.cell? ⟨w.heap.size, 2, none⟩ = some (.int .i64 L)) ∧ Below w.heap.size w w3 ∧ w.heap.size < w3.heap.size := ⟨⟨(hb3.cell hBs).trans x0, (hb3.cell hBs).trans x1, (hb3.cell hBs).trans x2⟩, hBw.trans (hb3.mono (by omega)), by have := hb3.size; omega⟩
            obtain ⟨⟨q0, q1, q2⟩, r1, r2⟩ := st3
            go_wp2_with fail
            refine (fig16 v vb.1 vb.2 _).mono ?_
            rw [← HD.out]
            rintro e w4 ⟨rfl, n, rfl⟩
            go_wp2
            go_roundw
            case rel =>
              (repeat apply Exists.intro)
              refine ⟨⟨1, T ++ D, by omega, by go_num, congrArg Value.string (ba_app T D), by first | (simp; done) | (simp; omega), ?_, ⟨by simpa using q0, by simpa using q1, by simpa using q2⟩, below_drewN r1 n, by simpa using r2⟩, rfl⟩
              show _ ++ _ = _
              rw [← HT2.out, HAS.out, HV.out]
              simp [show 8 - 1 = 7 - 0 from by omega]
            case measure => first | (simp [intOf]; done) | (simp [intOf]; omega)
          by_cases hfl : i = f + l
          · have hg : ((i : Int) != (f : Int) + (l : Int)) = false := by rw [bne_eq_false_iff_eq]; omega
            have HAS : Hid (asm (grp H L) hexs f l (8 - i) 0 = hexs (grp H L i) ++ asm (grp H L) hexs f l (7 - i) 0) := by
              show _ = _
              rw [asm_at _ _ _ _ _ hi8, if_neg hif, if_neg (by omega)]; rfl
            clear hif hfl
            go_wp2_with fail
            refine (grp_int true H L _ (by omega) (by omega) _).mono ?_
            obtain ⟨v, hv⟩ : ∃ v, v = grp H L i := ⟨_, rfl⟩
            have vb := grp_bd H L i
            rw [← hv] at vb
            simp only [Int.toNat_natCast]
            rw [← hv]
            obtain ⟨D, hD⟩ : ∃ D, D = hexs v := ⟨_, rfl⟩
            have hDl : D.length ≤ 4 := by rw [hD]; exact hexs_len _
            have HV : Hid (hexs (grp H L i) = D) := by show _ = D; rw [hD, hv]
            have HD : Hid (D = hexs v) := hD
            clear hv hD
            rintro e w3 ⟨rfl, hb3⟩
            have st3 : (w3.cell? ⟨w.heap.size, 0, none⟩ = some (.bool true) ∧ w3.cell? ⟨w.heap.size, 1, none⟩ = some (.int .i64 H) ∧ w3.cell? ⟨w.heap.size, 2, none⟩ = some (.int .i64 L)) ∧ Below w.heap.size w w3 ∧ w.heap.size < w3.heap.size := ⟨⟨(hb3.cell hBs).trans x0, (hb3.cell hBs).trans x1, (hb3.cell hBs).trans x2⟩, hBw.trans (hb3.mono (by omega)), by have := hb3.size; omega⟩
            obtain ⟨⟨q0, q1, q2⟩, r1, r2⟩ := st3
            go_wp2_with fail
            refine (fig16 v vb.1 vb.2 _).mono ?_
            rw [← HD.out]
            rintro e w4 ⟨rfl, n, rfl⟩
            go_wp2
            go_roundw
            case rel =>
              (repeat apply Exists.intro)
              refine ⟨⟨i + 1, T ++ D, by omega, by go_num, congrArg Value.string (ba_app T D), by first | (simp; done) | (simp; omega), ?_, ⟨by simpa using q0, by simpa using q1, by simpa using q2⟩, below_drewN r1 n, by simpa using r2⟩, rfl⟩
              show _ ++ _ = _
              rw [← HT2.out, HAS.out, HV.out]
              simp [show 8 - (i + 1) = 7 - i from by omega]
            case measure => first | (simp [intOf]; done) | (simp [intOf]; omega)
          · have hg : ((i : Int) != (f : Int) + (l : Int)) = true := by rw [bne_iff_ne]; omega
            have HAS : Hid (asm (grp H L) hexs f l (8 - i) 0 = [58] ++ hexs (grp H L i) ++ asm (grp H L) hexs f l (7 - i) 0) := by
              show _ = _
              rw [asm_at _ _ _ _ _ hi8, if_neg hif, if_pos (by omega)]
            clear hif hfl
            go_wp2_with fail
            refine (grp_int true H L _ (by omega) (by omega) _).mono ?_
            obtain ⟨v, hv⟩ : ∃ v, v = grp H L i := ⟨_, rfl⟩
            have vb := grp_bd H L i
            rw [← hv] at vb
            simp only [Int.toNat_natCast]
            rw [← hv]
            obtain ⟨D, hD⟩ : ∃ D, D = hexs v := ⟨_, rfl⟩
            have hDl : D.length ≤ 4 := by rw [hD]; exact hexs_len _
            have HV : Hid (hexs (grp H L i) = D) := by show _ = D; rw [hD, hv]
            have HD : Hid (D = hexs v) := hD
            clear hv hD
            rintro e w3 ⟨rfl, hb3⟩
            have st3 : (w3.cell? ⟨w.heap.size, 0, none⟩ = some (.bool true) ∧ w3.cell? ⟨w.heap.size, 1, none⟩ = some (.int .i64 H) ∧ w3.cell? ⟨w.heap.size, 2, none⟩ = some (.int .i64 L)) ∧ Below w.heap.size w w3 ∧ w.heap.size < w3.heap.size := ⟨⟨(hb3.cell hBs).trans x0, (hb3.cell hBs).trans x1, (hb3.cell hBs).trans x2⟩, hBw.trans (hb3.mono (by omega)), by have := hb3.size; omega⟩
            obtain ⟨⟨q0, q1, q2⟩, r1, r2⟩ := st3
            go_wp2_with fail
            refine (fig16 v vb.1 vb.2 _).mono ?_
            rw [← HD.out]
            rintro e w4 ⟨rfl, n, rfl⟩
            go_wp2
            go_roundw
            case rel =>
              (repeat apply Exists.intro)
              refine ⟨⟨i + 1, T ++ [58] ++ D, by omega, by go_num, congrArg Value.string (ba3 T [58] D), by simp; omega, ?_, ⟨by simpa using q0, by simpa using q1, by simpa using q2⟩, below_drewN r1 n, by simpa using r2⟩, rfl⟩
              show _ ++ _ = _
              rw [← HT2.out, HAS.out, HV.out]
              simp [show 8 - (i + 1) = 7 - i from by omega]
            case measure => first | (simp [intOf]; done) | (simp [intOf]; omega)
        · have hi9 : i = 8 := by omega
          subst hi9
          go_wp2
          go_ret
          refine ⟨ret_ba ?_, hBw⟩
          rw [← HTX.out, ← HT2.out]
          simp [asm]

end Go.Proofs.YtofnnpjadehgmaaDoor
