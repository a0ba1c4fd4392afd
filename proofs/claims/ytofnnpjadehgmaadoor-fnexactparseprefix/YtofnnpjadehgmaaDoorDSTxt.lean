/-
  The specification's text of an address, by its plain twin; nothing old in memory turns.
-/
import Derived.Test.YtofnnpjadehgmaaDoorDNrm
import Derived.Test.YtofnnpjadehgmaaDoorDFig
namespace Go.Proofs.YtofnnpjadehgmaaDoor
open Go.RowKit

theorem ba3 (a b c : List UInt8) : (⟨a.toArray⟩ : ByteArray) ++ (⟨b.toArray⟩ : ByteArray) ++ (⟨c.toArray⟩ : ByteArray) = ⟨(a ++ b ++ c).toArray⟩ := by rw [ba_app, ba_app]
theorem decs_len (x : Int) : (decs x).length ≤ 3 := by unfold decs; split; simp; split <;> simp
theorem and8 (u : Int) (h0 : 0 ≤ u) (h1 : u < 18446744073709551616) : bits .and .u64 u 255 = u % 256 := by
  obtain ⟨n, rfl⟩ := Int.eq_ofNat_of_zero_le h0
  rw [u64_and _ _ (by omega) (by omega) (by omega) (by omega)]
  have : (255 : Int).toNat = 2 ^ 8 - 1 := by decide
  rw [this, Int.toNat_natCast, Nat.and_two_pow_sub_one_eq_mod]
  omega

/-- The text of 32 bits. -/
def txt4 (L : Int) : List UInt8 := [] ++ decs (L / 16777216 % 256) ++ [46] ++ decs (L / 65536 % 256) ++ [46] ++ decs (L / 256 % 256) ++ [46] ++ decs (L % 256)

set_option maxHeartbeats 2000000 in
theorem sText_four (s : Bool) (h l H L : Int) (hz : Nrm s h l false H L) (h0 : 0 ≤ L) (h1 : L ≤ 4294967295) (w : World) :
    Calls Tryd.prog 41 #[.agg #[.bool s, .int .i64 h, .int .i64 l]] w fun e w' => e = .returned (.string ⟨(txt4 L).toArray⟩) ∧ Below w.heap.size w w' := by
  go_enter Tryd.func41, Tryd.ntmps41
  go_wp2_with fail
  refine (l1Addr_any _ _ _ _ _ _ hz _).mono ?_
  rintro e w1 ⟨rfl, hb⟩
  obtain ⟨hc, hf⟩ := olds (n := w.heap.size + 1) (hb.mono (by simp))
  have hz0 : w.heap.size < w1.heap.size := by have := hb.size; simp at this; omega
  have b1 : Below w.heap.size w w1 := ((Below.refl _ w).alloc (Nat.le_refl _) _).trans (hb.mono (by simp))
  have b2 : Below w.heap.size w (((w1.setCell ⟨w.heap.size, 0, none⟩ (.bool false)).setCell ⟨w.heap.size, 1, none⟩ (.int .i64 H)).setCell ⟨w.heap.size, 2, none⟩ (.int .i64 L)) := ((b1.setCell (by simp) _).setCell (by simp) _).setCell (by simp) _
  go_wp2_with fail
  go_loopw [3, 4] (fun t3 t4 x => (t4 = .int .i64 (3) ∧ ∃ T : List UInt8, t3 = .string ⟨T.toArray⟩ ∧ T.length ≤ 0 ∧ Hid (T = []) ∧ ∃ n, x = (((w1.setCell ⟨w.heap.size, 0, none⟩ (.bool false)).setCell ⟨w.heap.size, 1, none⟩ (.int .i64 H)).setCell ⟨w.heap.size, 2, none⟩ (.int .i64 L)).drewN n) ∨ (t4 = .int .i64 (2) ∧ ∃ T : List UInt8, t3 = .string ⟨T.toArray⟩ ∧ T.length ≤ 5 ∧ Hid (T = [] ++ decs (L / 16777216 % 256) ++ [46]) ∧ ∃ n, x = (((w1.setCell ⟨w.heap.size, 0, none⟩ (.bool false)).setCell ⟨w.heap.size, 1, none⟩ (.int .i64 H)).setCell ⟨w.heap.size, 2, none⟩ (.int .i64 L)).drewN n) ∨ (t4 = .int .i64 (1) ∧ ∃ T : List UInt8, t3 = .string ⟨T.toArray⟩ ∧ T.length ≤ 10 ∧ Hid (T = [] ++ decs (L / 16777216 % 256) ++ [46] ++ decs (L / 65536 % 256) ++ [46]) ∧ ∃ n, x = (((w1.setCell ⟨w.heap.size, 0, none⟩ (.bool false)).setCell ⟨w.heap.size, 1, none⟩ (.int .i64 H)).setCell ⟨w.heap.size, 2, none⟩ (.int .i64 L)).drewN n) ∨ (t4 = .int .i64 (0) ∧ ∃ T : List UInt8, t3 = .string ⟨T.toArray⟩ ∧ T.length ≤ 15 ∧ Hid (T = [] ++ decs (L / 16777216 % 256) ++ [46] ++ decs (L / 65536 % 256) ++ [46] ++ decs (L / 256 % 256) ++ [46]) ∧ ∃ n, x = (((w1.setCell ⟨w.heap.size, 0, none⟩ (.bool false)).setCell ⟨w.heap.size, 1, none⟩ (.int .i64 H)).setCell ⟨w.heap.size, 2, none⟩ (.int .i64 L)).drewN n) ∨ (t4 = .int .i64 (-1) ∧ ∃ T : List UInt8, t3 = .string ⟨T.toArray⟩ ∧ T.length ≤ 20 ∧ Hid (T = [] ++ decs (L / 16777216 % 256) ++ [46] ++ decs (L / 65536 % 256) ++ [46] ++ decs (L / 256 % 256) ++ [46] ++ decs (L % 256)) ∧ ∃ n, x = (((w1.setCell ⟨w.heap.size, 0, none⟩ (.bool false)).setCell ⟨w.heap.size, 1, none⟩ (.int .i64 H)).setCell ⟨w.heap.size, 2, none⟩ (.int .i64 L)).drewN n)) (fun _ t4 _ => (intOf t4 + 1).toNat)
  case atStart => exact Or.inl ⟨rfl, [], rfl, by simp, rfl, 0, by simp [World.drewN_zero]⟩
  case round =>
    rcases hrel with ⟨rfl, T, rfl, hTl, hT, n, rfl⟩ | ⟨rfl, T, rfl, hTl, hT, n, rfl⟩ | ⟨rfl, T, rfl, hTl, hT, n, rfl⟩ | ⟨rfl, T, rfl, hTl, hT, n, rfl⟩ | ⟨rfl, T, rfl, hTl, hT, n, rfl⟩
    · have nn := and8 (L / 16777216) (by omega) (by omega)
      obtain ⟨D, hD⟩ : ∃ D, D = decs (L / 16777216 % 256) := ⟨_, rfl⟩
      have hDl : D.length ≤ 3 := by rw [hD]; exact decs_len _
      have HD : Hid (D = decs (L / 16777216 % 256)) := hD
      clear hD
      go_wp2_with fail
      refine (fig10 (L / 16777216 % 256) (by omega) (by omega) _).mono ?_
      rw [← HD.out]
      rintro e w2 ⟨rfl, m, rfl⟩
      go_wp2
      refine ⟨Or.inr (Or.inl ⟨rfl, T ++ D ++ [46], congrArg Value.string (ba3 T D [46]), by simp; omega, ?_, _, rfl⟩), by simp [intOf]⟩
      show _ = _
      rw [hT.out, HD.out]
    · have nn := and8 (L / 65536) (by omega) (by omega)
      obtain ⟨D, hD⟩ : ∃ D, D = decs (L / 65536 % 256) := ⟨_, rfl⟩
      have hDl : D.length ≤ 3 := by rw [hD]; exact decs_len _
      have HD : Hid (D = decs (L / 65536 % 256)) := hD
      clear hD
      go_wp2_with fail
      refine (fig10 (L / 65536 % 256) (by omega) (by omega) _).mono ?_
      rw [← HD.out]
      rintro e w2 ⟨rfl, m, rfl⟩
      go_wp2
      refine ⟨Or.inr (Or.inr (Or.inl ⟨rfl, T ++ D ++ [46], congrArg Value.string (ba3 T D [46]), by simp; omega, ?_, _, rfl⟩)), by simp [intOf]⟩
      show _ = _
      rw [hT.out, HD.out]
    · have nn := and8 (L / 256) (by omega) (by omega)
      obtain ⟨D, hD⟩ : ∃ D, D = decs (L / 256 % 256) := ⟨_, rfl⟩
      have hDl : D.length ≤ 3 := by rw [hD]; exact decs_len _
      have HD : Hid (D = decs (L / 256 % 256)) := hD
      clear hD
      go_wp2_with fail
      refine (fig10 (L / 256 % 256) (by omega) (by omega) _).mono ?_
      rw [← HD.out]
      rintro e w2 ⟨rfl, m, rfl⟩
      go_wp2
      refine ⟨Or.inr (Or.inr (Or.inr (Or.inl ⟨rfl, T ++ D ++ [46], congrArg Value.string (ba3 T D [46]), by simp; omega, ?_, _, rfl⟩))), by simp [intOf]⟩
      show _ = _
      rw [hT.out, HD.out]
    · have nn := and8 (L) (by omega) (by omega)
      obtain ⟨D, hD⟩ : ∃ D, D = decs (L % 256) := ⟨_, rfl⟩
      have hDl : D.length ≤ 3 := by rw [hD]; exact decs_len _
      have HD : Hid (D = decs (L % 256)) := hD
      clear hD
      go_wp2_with fail
      refine (fig10 (L % 256) (by omega) (by omega) _).mono ?_
      rw [← HD.out]
      rintro e w2 ⟨rfl, m, rfl⟩
      go_wp2
      refine ⟨Or.inr (Or.inr (Or.inr (Or.inr (⟨rfl, T ++ D, congrArg Value.string (ba_app T D), by simp; omega, ?_, _, rfl⟩)))), by simp [intOf]⟩
      show _ = _
      rw [hT.out, HD.out]
    · go_wp2
      go_ret
      refine ⟨ret_ba (by rw [hT.out]; rfl), below_drewN b2 n⟩

end Go.Proofs.YtofnnpjadehgmaaDoor
