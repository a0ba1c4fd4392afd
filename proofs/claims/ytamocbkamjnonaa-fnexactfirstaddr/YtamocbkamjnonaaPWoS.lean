/-
  The specification's Without: one row, or none where a prefix is not right.
-/
import Derived.Test.YtamocbkamjnonaaPSLeft
import Derived.Test.YtamocbkamjnonaaPSpan
import Derived.Test.YtamocbkamjnonaaPPre
import Derived.Test.YtamocbkamjnonaaBSpX
namespace Go.Proofs.Ytamocbkamjnonaa
open Go.RowKit

theorem below_box {w w2 : World} {o : Obj} (h : Below (w.alloc o).heap.size (w.alloc o) w2) : Below w.heap.size w w2 := ((Below.refl _ w).alloc (Nat.le_refl _) o).trans (h.mono (by simp))

set_option maxHeartbeats 1000000 in
theorem sWithout_no (p : Pf) (a : Option Addr) (cap : Nat) (ps : List Pf) (w : World) (hB : Row w a ps) (hl : ps.length ≤ 1048576) (hno : (p.pok && rightP ps) = false) :
    Calls Try.prog 16 #[.agg #[.bool p.s, .int .i64 p.H.toInt, .int .i64 p.L.toInt, .int .i64 p.b], .slice a ps.length cap] w fun e w' => ∃ a' c', e = .returned (.slice a' 0 c') ∧ OwnR 37 w' w.heap.size (.slice a' 0 c') [] ∧ Below w.heap.size w w' := by
  have HP := hidP (sPrefixOk_any p.s p.H p.L p.b)
  have HR : Hid (∀ (wx : World) (_ : Row wx a ps), Calls Try.prog 32 #[.slice a ps.length cap] wx fun e w' => e = .returned (.bool (rightP ps)) ∧ Below wx.heap.size wx w') := hidP fun wx h => l2Right_any a cap ps wx h hl
  have HB := hidP hB
  obtain ⟨n, hn⟩ : ∃ n, n = ps.length := ⟨_, rfl⟩
  rw [← hn] at hl HR ⊢
  clear hB hn
  cases hpk : pokB p.s p.H p.L p.b
  · rw [hpk] at HP
    go_enter Try.func16, Try.ntmps16
    go_wp2_with fail
    refine (HP.out _).mono ?_
    rintro e w2 ⟨rfl, hb2⟩
    have HB2 := hidP (below_box hb2)
    clear hb2
    go_wp2_with fail
    go_ret
    exact ⟨_, _, rfl, own_zero w2 w.heap.size 37 HB2.out.size, HB2.out.alloc HB2.out.size _⟩
  · rw [hpk] at HP
    have hr : rightP ps = false := by
      have h1 : p.pok = true := hpk
      rw [h1] at hno; simpa using hno
    rw [hr] at HR
    clear hr hno
    go_enter Try.func16, Try.ntmps16
    go_wp2_with fail
    refine (HP.out _).mono ?_
    rintro e w2 ⟨rfl, hb2⟩
    have HB2 := hidP (below_box hb2)
    have HR2 := hidP (HB.out.later HB2.out)
    clear hb2
    go_wp2_with fail
    refine (HR.out _ HR2.out).mono ?_
    rintro e w3 ⟨rfl, hb3⟩
    have HB3 := hidP (HB2.out.trans (hb3.mono HB2.out.size))
    clear hb3
    go_wp2_with fail
    go_ret
    exact ⟨_, _, rfl, own_zero w3 w.heap.size 37 HB3.out.size, HB3.out.alloc HB3.out.size _⟩

theorem right_pre (xs : List Sp) (hxs : ∀ t ∈ xs, t.ok) (hl : xs.length ≤ 300) : rightP (xs.map Sp.pre) = true := by
  unfold rightP
  rw [List.length_map, decide_eq_true hl, Bool.and_true, List.all_eq_true]
  intro p hp
  obtain ⟨t, ht, rfl⟩ := List.mem_map.1 hp
  exact (hxs t ht).pok

set_option maxRecDepth 10000 in
set_option maxHeartbeats 1000000 in
theorem sWithout_yes (x : Sp) (hx : x.ok) (a : Option Addr) (cap : Nat) (xs : List Sp) (hxs : ∀ t ∈ xs, t.ok) (w : World) (hB : Row w a (xs.map Sp.pre)) (hl : xs.length ≤ 300) :
    Calls Try.prog 16 #[.agg #[.bool x.s, .int .i64 x.H.toInt, .int .i64 x.L.toInt, .int .i64 ((wd x.s : Int) - (x.n : Int))], .slice a xs.length cap] w fun e w' => ∃ a' c', e = .returned (.slice a' (leftM x.n x xs).length c') ∧ OwnR 37 w' w.heap.size (.slice a' (leftM x.n x xs).length c') ((leftM x.n x xs).map Sp.pre) ∧ Below w.heap.size w w' := by
  have hp := sPrefixOk_any x.s x.H x.L ((wd x.s : Int) - (x.n : Int))
  rw [hx.pok] at hp
  have HP := hidP hp
  have HR : Hid (∀ (wx : World) (_ : Row wx a (xs.map Sp.pre)), Calls Try.prog 32 #[.slice a xs.length cap] wx fun e w' => e = .returned (.bool true) ∧ Below wx.heap.size wx w') := hidP fun wx h => by
    have h1 := l2Right_any a cap (xs.map Sp.pre) wx h (by rw [List.length_map]; omega)
    have h2 := right_pre xs hxs hl
    unfold rightP at h2
    change ((xs.map Sp.pre).all (fun p => pokB p.s p.H p.L p.b) && decide ((xs.map Sp.pre).length ≤ 300)) = true at h2
    rw [h2, List.length_map] at h1
    exact h1
  have HL : Hid (∀ (wx : World) (_ : Row wx a (xs.map Sp.pre)), _) := hidP fun wx h => l2Left_all x.n x hx rfl xs hxs hl a cap wx h
  have HB := hidP hB
  obtain ⟨l, hl'⟩ : ∃ l, l = leftM x.n x xs := ⟨_, rfl⟩
  rw [← hl'] at HL ⊢
  obtain ⟨n, hn⟩ : ∃ n, n = xs.length := ⟨_, rfl⟩
  rw [← hn] at hl HR HL ⊢
  clear hB hn hx hxs hp hl'
  have HBx := hidP (box_cells w 37 ⟨x.s, x.H, x.L, (wd x.s : Int) - (x.n : Int)⟩)
  go_enter Try.func16, Try.ntmps16
  go_wp2_with fail
  refine (HP.out _).mono ?_
  rintro e w2 ⟨rfl, hb2⟩
  have HB2 := hidP (below_box hb2)
  have HR2 := hidP (HB.out.later HB2.out)
  have HBd := hidP hb2
  have hz2 := hb2.size
  rw [heap_size_alloc'] at hz2
  clear hb2
  go_wp2_with fail
  refine (HR.out _ HR2.out).mono ?_
  rintro e w3 ⟨rfl, hb3⟩
  have HB3 := hidP (HB2.out.trans (hb3.mono HB2.out.size))
  have HR3 := hidP (HR2.out.later hb3)
  have d0 := (hb3.cell (show w.heap.size < w2.heap.size by omega)).trans ((HBd.out.cell (show w.heap.size < _ by simp)).trans HBx.out.1)
  have d1 := (hb3.cell (show w.heap.size < w2.heap.size by omega)).trans ((HBd.out.cell (show w.heap.size < _ by simp)).trans HBx.out.2.1)
  have d2 := (hb3.cell (show w.heap.size < w2.heap.size by omega)).trans ((HBd.out.cell (show w.heap.size < _ by simp)).trans HBx.out.2.2.1)
  have d3 := (hb3.cell (show w.heap.size < w2.heap.size by omega)).trans ((HBd.out.cell (show w.heap.size < _ by simp)).trans HBx.out.2.2.2)
  clear hb3
  go_wp2_with fail
  refine (HL.out _ HR3.out).mono ?_
  rintro e w4 ⟨a4, c4, rfl, ho4, hb4⟩
  have HO4 := hidP (ho4.mono HB3.out.size)
  have HB4 := hidP (HB3.out.trans (hb4.mono HB3.out.size))
  clear ho4 hb4
  go_wp2_with fail
  go_ret
  exact ⟨_, _, rfl, HO4.out, HB4.out⟩

theorem spansOf_res (a : Option Addr) (cap : Nat) (ps : List Pf) (w : World) (hB : Row w a ps) (hl : ps.length ≤ 1048576) :
    Calls Try.prog 36 #[.slice a ps.length cap] w fun e w' => ∃ a' n' c', e = .returned (.tuple #[.slice a' n' c', .bool (rightP ps)]) ∧ Below w.heap.size w w' := by
  by_cases h : ps.length ≤ 300
  · refine (spansOf_short a cap ps w hB h).mono ?_
    rintro e w' ⟨h1 | h1, hb⟩
    · obtain ⟨h1, g, rfl, _⟩ := h1
      exact ⟨_, _, _, by unfold rightP; rw [h1, decide_eq_true h]; rfl, hb⟩
    · obtain ⟨h1, rfl⟩ := h1
      exact ⟨_, _, _, by unfold rightP; rw [h1]; rfl, hb⟩
  · refine (spansOf_long a ps.length cap w (by omega) hl).mono ?_
    rintro e w' ⟨rfl, hb⟩
    exact ⟨_, _, _, by unfold rightP; rw [decide_eq_false h, Bool.and_false], hb⟩

theorem sp_pre (xs : List Sp) : (xs.map Sp.pre).map Pf.sp = xs.map Sp.spn := by
  rw [List.map_map]
  refine List.map_congr_left fun x _ => ?_
  show (⟨x.s, x.H, x.L, (wd x.s : Int) - ((wd x.s : Int) - x.n)⟩ : Pf) = ⟨x.s, x.H, x.L, x.n⟩
  congr 1
  omega
theorem grown_none {w w' : World} (h : w.grownBy w' none) : Below w.heap.size w w' := ⟨h.os, h.tape, h.output, h.size, fun k hk => h.block k hk (by simp)⟩
theorem left_ok : ∀ (k : Nat) (x : Sp) (l : List Sp), x.ok → x.n = k → ∀ t ∈ leftM k x l, t.ok
  | 0, x, l, hx, _, t, ht => by
      unfold leftM at ht
      split at ht
      · cases ht
      · rw [List.mem_singleton] at ht; subst ht; exact hx
  | k + 1, x, l, hx, hn, t, ht => by
      unfold leftM at ht
      split at ht
      · cases ht
      · split at ht
        · rw [List.mem_singleton] at ht; subst ht; exact hx
        · rcases List.mem_append.1 ht with h | h
          · exact left_ok k (lowS x k) _ (low_ok hx hn) rfl t h
          · exact left_ok k (uppS x k) _ (upp_ok hx hn) rfl t h

end Go.Proofs.Ytamocbkamjnonaa
