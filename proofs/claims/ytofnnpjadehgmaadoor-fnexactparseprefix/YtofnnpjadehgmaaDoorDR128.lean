/-
  The program's reading of an address of 128 bits, by its plain twin; nothing old in memory turns.
-/
import Derived.Test.YtofnnpjadehgmaaDoorDPl8
import Derived.Test.YtofnnpjadehgmaaDoorDReadB
namespace Go.Proofs.YtofnnpjadehgmaaDoor
open Go.RowKit

theorem zf_take (l : List Int) (n : Nat) (j : Nat) (hj : j < n) : zf (l.take n) j = l.getD j 0 := by
  unfold zf
  simp [List.getD, hj]
theorem take_map (l : List Int) (n : Nat) (hn : n ≤ l.length) : ((List.range n).map fun j => l.getD j 0) = l.take n := by
  apply List.ext_getElem
  · simp; omega
  · intro i h1 h2
    simp at h1
    simp [List.getD, List.getElem?_eq_getElem (show i < l.length by omega)]

/-- The spreading, whatever the numbers are. -/
theorem spread_any (l : List Int) (hl : l.length = 8) (p n : Nat) (hn1 : 1 ≤ n) (hn8 : n ≤ 8) (w : World) (hp : p < w.heap.size) (hcell : ∀ j, j < 8 → w.cell? ⟨p, j, none⟩ = some (.int .i64 (l.getD j 0)))
    (hb : ∀ z ∈ l.take n, -1 ≤ z ∧ z ≤ 65535) :
    Calls Tryd.prog 50 #[.slice (some ⟨p, 0, none⟩) n 8] w fun e w' => ((∃ g : Nat → Int, (∃ g', sp (l.take n) = some g' ∧ ∀ j, j < 8 → g j = g' j) ∧ (∀ j, j < 8 → 0 ≤ g j ∧ g j < 65536) ∧ e = .returned (.tuple #[.agg #[.int .i64 (g 0), .int .i64 (g 1), .int .i64 (g 2), .int .i64 (g 3), .int .i64 (g 4), .int .i64 (g 5), .int .i64 (g 6), .int .i64 (g 7)], .bool true])) ∨ (sp (l.take n) = none ∧ ∃ g : Nat → Int, e = .returned (.tuple #[.agg #[.int .i64 (g 0), .int .i64 (g 1), .int .i64 (g 2), .int .i64 (g 3), .int .i64 (g 4), .int .i64 (g 5), .int .i64 (g 6), .int .i64 (g 7)], .bool false]))) ∧ Below w.heap.size w w' := by
  have tk : (((List.range n).map fun j => l.getD j 0).take n) = l.take n := by rw [take_map l n (by omega), List.take_take, Nat.min_self]
  have hlen : (l.take n).length = n := by simp; omega
  have hz : ∀ j, j < n → zf (l.take n) j = l.getD j 0 := fun j hj => zf_take l n j hj
  have hbd : ∀ j, j < n → -1 ≤ l.getD j 0 ∧ l.getD j 0 ≤ 65535 := fun j hj => hb _ (by
    rw [← hz j hj]; unfold zf
    rw [show (l.take n).getD j 0 = (l.take n)[j]'(by omega) from by simp [List.getD, List.getElem?_eq_getElem (show j < (l.take n).length by omega)]]
    exact List.getElem_mem _)
  rcases fst_ex (fun j => l.getD j 0) n with ⟨a, han, hza, hmin, hix⟩ | ⟨hno, hix⟩
  · have hex : ∃ a, a < n ∧ zf (l.take n) a = -1 := ⟨a, han, by rw [hz a han]; exact hza⟩
    obtain ⟨k1, k2, k3⟩ := lastM_hit (zf (l.take n)) n hex
    have k4 := lastM_le (zf (l.take n)) n
    obtain ⟨c, hc⟩ : ∃ c, c = lastM (zf (l.take n)) n := ⟨_, rfl⟩
    rw [← hc] at k1 k2 k3 k4
    have hzz : ∀ j, c ≤ j → j < n → l.getD j 0 ≠ -1 := fun j h1 h2 e => by have := k3 j h2 (by rw [hz j h2]; exact e); omega
    refine (spread_some (fun j => l.getD j 0) p n a c hn1 hn8 w hp hcell hix (by have := k3 a han (by rw [hz a han]; exact hza); omega) k4 (by have := k2; rw [hz _ (by omega)] at this; exact this) hzz).mono ?_
    rintro e w' ⟨⟨g, hg, rfl⟩, hB⟩
    have hac : a < c := k3 a han (by rw [hz a han]; exact hza)
    refine ⟨Or.inl ⟨g, ⟨_, by unfold sp; rw [← tk, hix, if_neg (by omega)], fun j hj => ?_⟩, fun j hj => ?_, rfl⟩, hB⟩
    · rw [hg j hj, tk, hlen, ← hc]
      by_cases h1 : 8 - (n - c) ≤ j
      · rw [if_pos h1, if_pos h1, hz _ (by omega)]
      · rw [if_neg h1, if_neg h1]
        by_cases h2 : j < a
        · rw [if_pos h2, if_pos (by omega), hz _ (by omega)]
        · rw [if_neg h2, if_neg (by omega)]
    · rw [hg j hj]
      by_cases h1 : 8 - (n - c) ≤ j
      · rw [if_pos h1]
        have q1 := hbd (c + (j - (8 - (n - c)))) (by omega)
        have q2 := hzz (c + (j - (8 - (n - c)))) (by omega) (by omega)
        omega
      · rw [if_neg h1]
        by_cases h2 : j < a
        · rw [if_pos h2]
          have q1 := hbd j (by omega)
          have q2 : l.getD j 0 ≠ -1 := hmin j h2
          omega
        · rw [if_neg h2]; omega
  · refine (spread_none (fun j => l.getD j 0) p n hn1 hn8 w hp hcell hix).mono ?_
    rintro e w' ⟨⟨g, hg, rfl⟩, hB⟩
    by_cases h8 : n = 8
    · subst h8
      refine ⟨Or.inl ⟨g, ⟨_, by unfold sp; rw [← tk, hix, if_pos rfl, tk, if_pos hlen], fun j hj => ?_⟩, fun j hj => ?_, by simp⟩, hB⟩
      · rw [hg j hj, if_pos hj, hz j hj]
      · rw [hg j hj, if_pos hj]
        have q1 := hbd j hj
        have q2 : l.getD j 0 ≠ -1 := hno j hj
        omega
    · refine ⟨Or.inr ⟨by unfold sp; rw [← tk, hix, if_pos rfl, tk, if_neg (by omega)], g, by simp [h8]⟩, hB⟩

/-- The words of an address, as the program keeps them. -/
def hiOf (g : Nat → Int) : Int := IntKind.i64.wrap (fh g 8)
def loOf (g : Nat → Int) : Int := IntKind.i64.wrap (fl g 8)
theorem fold_congr (g g' : Nat → Int) : ∀ k, (∀ j, j < k → g j = g' j) → fold g k = fold g' k
  | 0, _ => rfl
  | k + 1, h => by rw [fold, fold, fold_congr g g' k (fun j hj => h j (by omega)), h k (by omega)]
theorem hiOf_congr (g g' : Nat → Int) (h : ∀ j, j < 8 → g j = g' j) : hiOf g = hiOf g' := by unfold hiOf fh; rw [fold_congr g g' 8 h]
theorem loOf_congr (g g' : Nat → Int) (h : ∀ j, j < 8 → g j = g' j) : loOf g = loOf g' := by unfold loOf fl; rw [fold_congr g g' 8 h]

theorem wrapE (x : Int) : IntKind.i64.wrap x = wrap64 x := by rw [IntKind.wrap_i64, wrap64]
set_option maxHeartbeats 4000000 in
theorem read128 (s : ByteArray) (w : World) :
    Calls Tryd.prog 27 #[.string s] w fun e w' => ((∃ g : Nat → Int, p128 s.data.toList = some g ∧ (∀ j, j < 8 → 0 ≤ g j ∧ g j < 65536) ∧ e = .returned (.tuple #[.agg #[.bool true, .int .i64 (hiOf g), .int .i64 (loOf g)], .bool true])) ∨ (p128 s.data.toList = none ∧ e = .returned (.tuple #[.agg #[.bool false, .int .i64 0, .int .i64 0], .bool false]))) ∧ Below w.heap.size w w' := by
  go_enter Tryd.func27, Tryd.ntmps27
  go_wp2_with fail
  refine (readB s _).mono ?_
  rintro e w1 ⟨⟨a0, a1, a2, a3, a4, a5, a6, a7, n, rfl, n1, n8, hrn⟩ | ⟨a0, a1, a2, a3, a4, a5, a6, a7, rfl, hrn⟩, hb⟩
  · have z0 : w.heap.size < w1.heap.size := by have := hb.size; simp at this; omega
    obtain ⟨hc, hf⟩ := olds (n := w.heap.size + 1) (hb.mono (by simp))
    have b1 : Below w.heap.size w w1 := ((Below.refl _ w).alloc (Nat.le_refl _) _).trans (hb.mono (by simp))
    have HRN := hid' hrn
    have HBD : Hid (∀ z ∈ [a0, a1, a2, a3, a4, a5, a6, a7].take n, -1 ≤ z ∧ z ≤ 65535) := rn_bd 58 16 65535 (by omega) (by omega) _ _ _ _ (by simp) (by omega) hrn
    clear hrn
    have q8 : (n : Int) ≤ 8 := by omega
    have q0 : 0 ≤ (n : Int) := by omega
    go_wp2_with fail
    refine (spread_any [a0, a1, a2, a3, a4, a5, a6, a7] rfl w1.heap.size n n1 n8 _ (by simp) (fun j hj => by rcases lt8 j hj with rfl | rfl | rfl | rfl | rfl | rfl | rfl | rfl <;> simp [go_sem]) HBD.out).mono ?_
    rintro e w2 ⟨⟨g, hsp, hgb, rfl⟩ | ⟨hsp, g, rfl⟩, hb2⟩
    · have HSP := hid' hsp
      have HGB := hid' hgb
      clear hsp hgb
      have z1 : w.heap.size < w2.heap.size := by have := hb2.size; simp at this; omega
      have b2 : Below w.heap.size w w2 := (b1.alloc (by omega) _).trans (hb2.mono (by simp; omega))
      obtain ⟨hc2, hf2⟩ := olds (n := w.heap.size + 1) (hb2.mono (by simp; omega))
      go_wp2_with fail
      go_loop [8, 9, 31] (fun t8 t9 t31 => ∃ k : Nat, k ≤ 8 ∧ t31 = .int .i64 k ∧ t8 = .int .u64 (fh g k) ∧ t9 = .int .u64 (fl g k)) (fun _ _ t31 => 8 - (intOf t31).toNat)
      case atStart => exact ⟨0, by omega, rfl, rfl, rfl⟩
      case round =>
        obtain ⟨k, hk, rfl, rfl, rfl⟩ := hrel
        have u0 := fl_bd g k
        have u1 := fh_bd g k
        by_cases hlt : k < 8
        · have hx := idx8 g k hlt
          obtain ⟨g0, g1⟩ := HGB.out k hlt
          have o1 := fh_or g k g0 g1
          have o2 := fl_or g k g0 g1
          go_wp2
          go_round
          case rel => exact ⟨k + 1, by omega, by go_num, rfl, rfl⟩
          case measure => simp [intOf]; omega
        · have : k = 8 := by omega
          subst this
          go_wp2
          refine bodyPost_ret (v := .tuple #[.agg #[.bool true, .int .i64 (hiOf g), .int .i64 (loOf g)], .bool true]) (by simp [results, Tryd.results27, go_sem, hiOf, loOf, hc, hc2, z0, z1]; exact ⟨(wrapE _).symm, (wrapE _).symm⟩) rfl ⟨Or.inl ?_, ?_⟩
          · obtain ⟨g', e1, e2⟩ := HSP.out
            refine ⟨g', ?_, fun j hj => by rw [← e2 j hj]; exact HGB.out j hj, by rw [hiOf_congr g g' e2, loOf_congr g g' e2]⟩
            show (rn 58 16 65535 s.data.toList [] (-1)).bind sp = some g'
            rw [HRN.out]; exact e1
          · repeat (first | with_reducible exact b2 | (with_reducible refine Below.setCell ?_ (by first | omega | (simp; done) | (simp; omega)) _) | (with_reducible refine Below.alloc ?_ (by first | omega | (simp; done) | (simp; omega)) _))
    · have z1 : w.heap.size < w2.heap.size := by have := hb2.size; simp at this; omega
      have b2 : Below w.heap.size w w2 := (b1.alloc (by omega) _).trans (hb2.mono (by simp; omega))
      have HSP := hid' hsp
      clear hsp
      obtain ⟨hc2, hf2⟩ := olds (n := w.heap.size + 1) (hb2.mono (by simp; omega))
      go_wp2
      refine bodyPost_ret (v := .tuple #[.agg #[.bool false, .int .i64 0, .int .i64 0], .bool false]) (by simp [results, Tryd.results27, go_sem, hc, hc2, z0, z1]) rfl ⟨Or.inr ⟨?_, rfl⟩, ?_⟩
      · show (rn 58 16 65535 s.data.toList [] (-1)).bind sp = none
        rw [HRN.out]; exact HSP.out
      · repeat (first | with_reducible exact b2 | (with_reducible refine Below.setCell ?_ (by first | omega | (simp; done) | (simp; omega)) _) | (with_reducible refine Below.alloc ?_ (by first | omega | (simp; done) | (simp; omega)) _))
  · have b1 : Below w.heap.size w w1 := ((Below.refl _ w).alloc (Nat.le_refl _) _).trans (hb.mono (by simp))
    have z0 : w.heap.size < w1.heap.size := by have := hb.size; simp at this; omega
    obtain ⟨hc, hf⟩ := olds (n := w.heap.size + 1) (hb.mono (by simp))
    have HRN := hid' hrn
    clear hrn
    go_wp2
    refine bodyPost_ret (v := .tuple #[.agg #[.bool false, .int .i64 0, .int .i64 0], .bool false]) (by simp [results, Tryd.results27, go_sem, hc, z0]) rfl ⟨Or.inr ⟨?_, rfl⟩, ?_⟩
    · show (rn 58 16 65535 s.data.toList [] (-1)).bind sp = none
      rw [HRN.out]; rfl
    · repeat (first | with_reducible exact b1 | (with_reducible refine Below.setCell ?_ (by first | omega | (simp; done) | (simp; omega)) _) | (with_reducible refine Below.alloc ?_ (by first | omega | (simp; done) | (simp; omega)) _))

end Go.Proofs.YtofnnpjadehgmaaDoor
