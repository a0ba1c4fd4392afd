/-
  The program's reading of an address of 32 bits, by its plain twin; nothing old in memory turns.
-/
import Derived.Test.YtofnnpjadehgmaaDoorDReadA
import Derived.Test.YtofnnpjadehgmaaDoorAOk
namespace Go.Proofs.YtofnnpjadehgmaaDoor
open Go.RowKit

theorem rn_bd (sep base most : Int) (hb : 0 ≤ base) (hm : -1 ≤ most) : ∀ (l : List UInt8) (done : List Int) (cur : Int) (zs : List Int), (∀ z ∈ done, -1 ≤ z ∧ z ≤ most) → (-1 ≤ cur ∧ cur ≤ most) → rn sep base most l done cur = some zs → ∀ z ∈ zs, -1 ≤ z ∧ z ≤ most
  | [], done, cur, zs, h1, h2, h => by
      simp only [rn, Option.some.injEq] at h
      subst h
      intro z hz
      rcases List.mem_append.1 hz with hz | hz
      · exact h1 z hz
      · rw [List.mem_singleton] at hz; subst hz; exact h2
  | c :: r, done, cur, zs, h1, h2, h => by
      unfold rn at h
      split at h
      · split at h
        · cases h
        · refine rn_bd sep base most hb hm r (done ++ [cur]) (-1) zs (fun z hz => ?_) ⟨by omega, hm⟩ h
          rcases List.mem_append.1 hz with hz | hz
          · exact h1 z hz
          · rw [List.mem_singleton] at hz; subst hz; exact h2
      · split at h
        · rename_i hk
          by_cases hv : most < (if cur < 0 then 0 else cur) * base + dgv c.toNat
          · rw [if_pos hv] at h; cases h
          · rw [if_neg hv] at h
            refine rn_bd sep base most hb hm r done _ zs h1 ⟨?_, by omega⟩ h
            have hd : 0 ≤ dgv c.toNat := by simp [dgk] at hk; exact hk.1
            have : 0 ≤ (if cur < 0 then 0 else cur) * base := Int.mul_nonneg (by split <;> omega) hb
            omega
        · cases h

theorem or8 (x z : Int) (h0 : 0 ≤ x) (h1 : x < 16777216) (z0 : 0 ≤ z) (z1 : z < 256) : bits .or .i64 (x * 256) z = x * 256 + z := by
  obtain ⟨n, rfl⟩ := Int.eq_ofNat_of_zero_le h0
  obtain ⟨m, rfl⟩ := Int.eq_ofNat_of_zero_le z0
  have e1 : ((n : Int) * 256) = ((n * 256 : Nat) : Int) := by omega
  rw [e1]
  show IntKind.i64.wrap ((BitVec.ofInt 64 ((n * 256 : Nat) : Int) ||| BitVec.ofInt 64 (m : Int)).toNat : Int) = _
  rw [BitVec.toNat_or, ofInt_u64 (n * 256) (by omega), ofInt_u64 m (by omega), nat_join 8 (n * 256) m (by omega) (by omega), IntKind.wrap_i64]
  omega

theorem slH4 (b : Nat) (w : World) : (Instr.sliceAt 52 (.pointer (some ⟨b, 0, none⟩)) none (some (.int .i64 4)) none).run Tryd.prog w = .ok (.slice (some ⟨b, 0, none⟩) 4 8) w := by kernel_rfl

/-- Four numbers, none of them missing. -/
def Is32 (s : ByteArray) (a b c d : Int) : Prop := rn 46 10 255 s.data.toList [] (-1) = some [a, b, c, d] ∧ (0 ≤ a ∧ a ≤ 255) ∧ (0 ≤ b ∧ b ≤ 255) ∧ (0 ≤ c ∧ c ≤ 255) ∧ (0 ≤ d ∧ d ≤ 255)

set_option maxHeartbeats 4000000 in
theorem read32 (s : ByteArray) (w : World) :
    Calls Tryd.prog 26 #[.string s] w fun e w' => ((∃ a b c d : Int, Is32 s a b c d ∧ e = .returned (.tuple #[.agg #[.bool false, .int .i64 0, .int .i64 (((a * 256 + b) * 256 + c) * 256 + d)], .bool true])) ∨ ((¬ ∃ a b c d : Int, Is32 s a b c d) ∧ e = .returned (.tuple #[.agg #[.bool false, .int .i64 0, .int .i64 0], .bool false]))) ∧ Below w.heap.size w w' := by
  go_enter Tryd.func26, Tryd.ntmps26
  go_wp2_with fail
  refine (readA s _).mono ?_
  rintro e w1 ⟨⟨a0, a1, a2, a3, a4, a5, a6, a7, n, rfl, n1, n8, hrn⟩ | ⟨a0, a1, a2, a3, a4, a5, a6, a7, rfl, hrn⟩, hb⟩
  · have z0 : w.heap.size < w1.heap.size := by have := hb.size; simp at this; omega
    obtain ⟨hc, hf⟩ := olds (n := w.heap.size + 1) (hb.mono (by simp))
    have b1 : Below w.heap.size w w1 := ((Below.refl _ w).alloc (Nat.le_refl _) _).trans (hb.mono (by simp))
    by_cases h4 : n = 4
    · subst h4
      have bd := rn_bd 46 10 255 (by omega) (by omega) _ _ _ _ (by simp) (by omega) hrn
      have q0 := bd a0 (by simp); have q1 := bd a1 (by simp); have q2 := bd a2 (by simp); have q3 := bd a3 (by simp)
      have HRN : Hid (rn 46 10 255 s.data.toList [] (-1) = some [a0, a1, a2, a3]) := hrn
      clear hrn bd n1 n8
      have sl := slH4 w1.heap.size
      go_wp2_with fail
      go_loopw [27] (fun t27 x => (t27 = .int .i64 0 ∧ x = (w1.alloc (.cells #[.int .i64 a0, .int .i64 a1, .int .i64 a2, .int .i64 a3, .int .i64 a4, .int .i64 a5, .int .i64 a6, .int .i64 a7] 52)).alloc (.cells #[.bool false, .int .i64 0, .int .i64 0] 25)) ∨ (t27 = .int .i64 1 ∧ 0 ≤ a0 ∧ x = (w1.alloc (.cells #[.int .i64 a0, .int .i64 a1, .int .i64 a2, .int .i64 a3, .int .i64 a4, .int .i64 a5, .int .i64 a6, .int .i64 a7] 52)).alloc (.cells #[.bool false, .int .i64 0, .int .i64 a0] 25)) ∨ (t27 = .int .i64 2 ∧ 0 ≤ a0 ∧ 0 ≤ a1 ∧ x = (w1.alloc (.cells #[.int .i64 a0, .int .i64 a1, .int .i64 a2, .int .i64 a3, .int .i64 a4, .int .i64 a5, .int .i64 a6, .int .i64 a7] 52)).alloc (.cells #[.bool false, .int .i64 0, .int .i64 (a0 * 256 + a1)] 25)) ∨ (t27 = .int .i64 3 ∧ 0 ≤ a0 ∧ 0 ≤ a1 ∧ 0 ≤ a2 ∧ x = (w1.alloc (.cells #[.int .i64 a0, .int .i64 a1, .int .i64 a2, .int .i64 a3, .int .i64 a4, .int .i64 a5, .int .i64 a6, .int .i64 a7] 52)).alloc (.cells #[.bool false, .int .i64 0, .int .i64 ((a0 * 256 + a1) * 256 + a2)] 25)) ∨ (t27 = .int .i64 4 ∧ 0 ≤ a0 ∧ 0 ≤ a1 ∧ 0 ≤ a2 ∧ 0 ≤ a3 ∧ x = (w1.alloc (.cells #[.int .i64 a0, .int .i64 a1, .int .i64 a2, .int .i64 a3, .int .i64 a4, .int .i64 a5, .int .i64 a6, .int .i64 a7] 52)).alloc (.cells #[.bool false, .int .i64 0, .int .i64 (((a0 * 256 + a1) * 256 + a2) * 256 + a3)] 25))) (fun t27 _ => (4 - intOf t27).toNat)
      case atStart => exact Or.inl ⟨rfl, rfl⟩
      case round =>
        rcases hrel with ⟨rfl, rfl⟩ | ⟨rfl, p0, rfl⟩ | ⟨rfl, p0, p1, rfl⟩ | ⟨rfl, p0, p1, p2, rfl⟩ | ⟨rfl, p0, p1, p2, p3, rfl⟩
        · by_cases hm : a0 = -1
          · have hmb : (a0 == -1) = true := by simp [hm]
            have HM : Hid (a0 = -1) := hm
            clear hm
            go_wp2
            refine bodyPost_ret (v := .tuple #[.agg #[.bool false, .int .i64 0, .int .i64 0], .bool false]) (by simp [results, Tryd.results26, go_sem, hc, z0]) rfl ⟨Or.inr ⟨?_, rfl⟩, ?_⟩
            · rintro ⟨x0, x1, x2, x3, hx, y0, y1, y2, y3⟩; have hh := HRN.out.symm.trans hx; simp at hh; have := HM.out; omega
            · repeat (first | with_reducible exact b1 | (with_reducible refine Below.setCell ?_ (by first | omega | (simp; done) | (simp; omega)) _) | (with_reducible refine Below.alloc ?_ (by first | omega | (simp; done) | (simp; omega)) _))
          · have hmb : (a0 == -1) = false := by simp [hm]
            have hp0 : 0 ≤ a0 := by omega
            clear hm
            have o0 : bits .or .i64 0 a0 = a0 := by have := or8 0 a0 (by omega) (by omega) (by omega) (by omega); simpa using this
            go_wp2
            exact ⟨Or.inr (Or.inl ⟨rfl, hp0, trivial⟩), by simp [intOf]⟩
        · by_cases hm : a1 = -1
          · have hmb : (a1 == -1) = true := by simp [hm]
            have HM : Hid (a1 = -1) := hm
            clear hm
            go_wp2
            refine bodyPost_ret (v := .tuple #[.agg #[.bool false, .int .i64 0, .int .i64 0], .bool false]) (by simp [results, Tryd.results26, go_sem, hc, z0]) rfl ⟨Or.inr ⟨?_, rfl⟩, ?_⟩
            · rintro ⟨x0, x1, x2, x3, hx, y0, y1, y2, y3⟩; have hh := HRN.out.symm.trans hx; simp at hh; have := HM.out; omega
            · repeat (first | with_reducible exact b1 | (with_reducible refine Below.setCell ?_ (by first | omega | (simp; done) | (simp; omega)) _) | (with_reducible refine Below.alloc ?_ (by first | omega | (simp; done) | (simp; omega)) _))
          · have hmb : (a1 == -1) = false := by simp [hm]
            have hp1 : 0 ≤ a1 := by omega
            clear hm
            have o1 := or8 a0 a1 (by omega) (by omega) (by omega) (by omega)
            go_wp2
            exact ⟨Or.inr (Or.inr (Or.inl ⟨rfl, p0, hp1, trivial⟩)), by simp [intOf]⟩
        · by_cases hm : a2 = -1
          · have hmb : (a2 == -1) = true := by simp [hm]
            have HM : Hid (a2 = -1) := hm
            clear hm
            go_wp2
            refine bodyPost_ret (v := .tuple #[.agg #[.bool false, .int .i64 0, .int .i64 0], .bool false]) (by simp [results, Tryd.results26, go_sem, hc, z0]) rfl ⟨Or.inr ⟨?_, rfl⟩, ?_⟩
            · rintro ⟨x0, x1, x2, x3, hx, y0, y1, y2, y3⟩; have hh := HRN.out.symm.trans hx; simp at hh; have := HM.out; omega
            · repeat (first | with_reducible exact b1 | (with_reducible refine Below.setCell ?_ (by first | omega | (simp; done) | (simp; omega)) _) | (with_reducible refine Below.alloc ?_ (by first | omega | (simp; done) | (simp; omega)) _))
          · have hmb : (a2 == -1) = false := by simp [hm]
            have hp2 : 0 ≤ a2 := by omega
            clear hm
            have o2 := or8 (a0 * 256 + a1) a2 (by omega) (by omega) (by omega) (by omega)
            go_wp2
            exact ⟨Or.inr (Or.inr (Or.inr (Or.inl ⟨rfl, p0, p1, hp2, trivial⟩))), by simp [intOf]⟩
        · by_cases hm : a3 = -1
          · have hmb : (a3 == -1) = true := by simp [hm]
            have HM : Hid (a3 = -1) := hm
            clear hm
            go_wp2
            refine bodyPost_ret (v := .tuple #[.agg #[.bool false, .int .i64 0, .int .i64 0], .bool false]) (by simp [results, Tryd.results26, go_sem, hc, z0]) rfl ⟨Or.inr ⟨?_, rfl⟩, ?_⟩
            · rintro ⟨x0, x1, x2, x3, hx, y0, y1, y2, y3⟩; have hh := HRN.out.symm.trans hx; simp at hh; have := HM.out; omega
            · repeat (first | with_reducible exact b1 | (with_reducible refine Below.setCell ?_ (by first | omega | (simp; done) | (simp; omega)) _) | (with_reducible refine Below.alloc ?_ (by first | omega | (simp; done) | (simp; omega)) _))
          · have hmb : (a3 == -1) = false := by simp [hm]
            have hp3 : 0 ≤ a3 := by omega
            clear hm
            have o3 := or8 ((a0 * 256 + a1) * 256 + a2) a3 (by omega) (by omega) (by omega) (by omega)
            go_wp2
            exact ⟨Or.inr (Or.inr (Or.inr (Or.inr (⟨rfl, p0, p1, p2, hp3, trivial⟩)))), by simp [intOf]⟩
        · go_wp2
          refine bodyPost_ret (v := .tuple #[.agg #[.bool false, .int .i64 0, .int .i64 (((a0 * 256 + a1) * 256 + a2) * 256 + a3)], .bool true]) (by simp [results, Tryd.results26, go_sem, hc, z0]) rfl ⟨Or.inl ⟨a0, a1, a2, a3, ⟨HRN.out, by omega, by omega, by omega, by omega⟩, rfl⟩, ?_⟩
          repeat (first | with_reducible exact b1 | (with_reducible refine Below.setCell ?_ (by first | omega | (simp; done) | (simp; omega)) _) | (with_reducible refine Below.alloc ?_ (by first | omega | (simp; done) | (simp; omega)) _))
    · have hnb : ((n : Int) != 4) = true := by rw [bne_iff_ne]; omega
      have HRN := hid' hrn
      have HN : Hid (n ≠ 4) := h4
      clear hrn h4
      go_wp2
      refine bodyPost_ret (v := .tuple #[.agg #[.bool false, .int .i64 0, .int .i64 0], .bool false]) (by simp [results, Tryd.results26, go_sem, hc, z0]) rfl ⟨Or.inr ⟨?_, rfl⟩, ?_⟩
      · rintro ⟨x0, x1, x2, x3, hx, _⟩; have hh := congrArg (fun o => o.map List.length) (HRN.out.symm.trans hx); simp at hh; have := HN.out; omega
      · repeat (first | with_reducible exact b1 | (with_reducible refine Below.setCell ?_ (by first | omega | (simp; done) | (simp; omega)) _) | (with_reducible refine Below.alloc ?_ (by first | omega | (simp; done) | (simp; omega)) _))
  · have z0 : w.heap.size < w1.heap.size := by have := hb.size; simp at this; omega
    obtain ⟨hc, hf⟩ := olds (n := w.heap.size + 1) (hb.mono (by simp))
    have b1 : Below w.heap.size w w1 := ((Below.refl _ w).alloc (Nat.le_refl _) _).trans (hb.mono (by simp))
    have HRN := hid' hrn
    clear hrn
    go_wp2
    refine bodyPost_ret (v := .tuple #[.agg #[.bool false, .int .i64 0, .int .i64 0], .bool false]) (by simp [results, Tryd.results26, go_sem, hc, z0]) rfl ⟨Or.inr ⟨?_, rfl⟩, ?_⟩
    · rintro ⟨x0, x1, x2, x3, hx, _⟩; exact absurd (HRN.out.symm.trans hx) (by simp)
    · repeat (first | with_reducible exact b1 | (with_reducible refine Below.setCell ?_ (by first | omega | (simp; done) | (simp; omega)) _) | (with_reducible refine Below.alloc ?_ (by first | omega | (simp; done) | (simp; omega)) _))

end Go.Proofs.YtofnnpjadehgmaaDoor
