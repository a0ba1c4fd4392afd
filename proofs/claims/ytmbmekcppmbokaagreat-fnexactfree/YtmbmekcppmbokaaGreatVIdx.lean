/-
  slices.IndexFunc and slices.ContainsFunc at rows of pools, for closures over one variable.
-/
import Derived.Test.YtmbmekcppmbokaaGreatVPool
namespace Go.Proofs.YtmbmekcppmbokaaGreat
open Go.RowKit

/-- The place of the first that f likes. -/
def ixF {α : Type} (f : α → Bool) : Int → List α → Int
  | _, [] => -1
  | i, q :: t => if f q = true then i else ixF f (i + 1) t
theorem ixF_step {α : Type} (f : α → Bool) (ps : List α) (k : Nat) (q : α) (h : ps[k]? = some q) : ixF f k (ps.drop k) = if f q = true then (k : Int) else ixF f ((k + 1 : Nat) : Int) (ps.drop (k + 1)) := by
  have hk : k < ps.length := by
    rcases Nat.lt_or_ge k ps.length with h' | h'
    · exact h'
    · rw [List.getElem?_eq_none h'] at h; cases h
  have e : ps.drop k = q :: ps.drop (k + 1) := by
    rw [List.drop_eq_getElem_cons hk]
    rw [List.getElem?_eq_getElem hk] at h
    cases h; rfl
  rw [e]
  rfl
theorem ixF_any {α : Type} (f : α → Bool) : ∀ (ps : List α) (i : Int), 0 ≤ i → decide (0 ≤ ixF f i ps) = ps.any f
  | [], _, _ => rfl
  | q :: t, i, hi => by
      unfold ixF
      cases h : f q
      · rw [if_neg (by simp), ixF_any f t (i + 1) (by omega), List.any_cons, h, Bool.false_or]
      · rw [if_pos rfl, List.any_cons, h, Bool.true_or]; exact decide_eq_true hi
theorem ret_i {k : IntKind} {a b : Int} (h : a = b) : Ending.returned (.int k a) = .returned (.int k b) := by rw [h]

set_option maxHeartbeats 1000000 in
theorem idx_carved (f : Pl → Bool) (cb : Nat) (a : Option Addr) (n cap : Nat) (ps : List Pl) (w : World) (hn : n = ps.length) (hB : RowG KPl w a ps) (hl : n ≤ 9000000000)
    (hf : ∀ (x : Pl) (W : World), Below w.heap.size w W → Calls Tryz.prog 97 #[.agg #[.bool x.p.s, .int .i64 x.p.H.toInt, .int .i64 x.p.L.toInt, .int .i64 x.p.b, .int .i64 x.n], .pointer (some ⟨cb, 0, none⟩)] W fun e w' => e = .returned (.bool (f x)) ∧ Below W.heap.size W w') :
    Calls Tryz.prog 65 #[.slice a n cap, .func (.func 97) #[] #[.pointer (some ⟨cb, 0, none⟩)]] w fun e w' => e = .returned (.int .i64 (ixF f 0 ps)) ∧ Below w.heap.size w w' := by
  have HB := hidP hB
  have HN := hidP hn
  have HF := hidP hf
  clear hB hn hf
  go_enter Tryz.func65, Tryz.ntmps65
  go_wp2_with fail
  go_loopw [5, 8] (fun _ t8 wr => ∃ k : Nat, k ≤ n ∧ t8 = .int .i64 k ∧ ixF f 0 ps = ixF f k (ps.drop k) ∧ Below w.heap.size w wr) (fun _ t8 _ => n - (intOf t8).toNat)
  case atStart => exact ⟨0, Nat.zero_le _, rfl, rfl, Below.refl _ _⟩
  case round =>
    obtain ⟨k, hk, rfl, hix, hbel⟩ := hrel
    by_cases hlt : k < n
    · obtain ⟨p, o, q, rfl, hp, hq, c0, c1, c2, c3, c4⟩ := rowPl HB.out k (by rw [← HN.out]; exact hlt)
      have d0 := (hbel.cell hp).trans c0
      have d1 := (hbel.cell hp).trans c1
      have d2 := (hbel.cell hp).trans c2
      have d3 := (hbel.cell hp).trans c3
      have d4 := (hbel.cell hp).trans c4
      have HBel := hidP hbel
      have hst := ixF_step f ps k q hq
      rw [hst] at hix
      have HX := hidP hix
      have HFq := hidP (HF.out q _ hbel)
      clear hbel c0 c1 c2 c3 c4 hq hix hst
      cases hfq : f q
      · rw [hfq] at HX HFq
        go_wp2_with (first | (go_at_call 97; refine (HFq.out).mono ?_; rintro e w2 ⟨rfl, hb2⟩))
        have HB2 := hidP (HBel.out.trans (hb2.mono HBel.out.size))
        clear hb2 HBel d0 d1 d2 d3 d4
        go_wp2_with fail
        go_roundw
        case rel => exact ⟨k + 1, by omega, by go_num, by rw [HX.out]; simp, HB2.out⟩
        case measure => simp [intOf]; omega
      · rw [hfq] at HX HFq
        go_wp2_with (first | (go_at_call 97; refine (HFq.out).mono ?_; rintro e w2 ⟨rfl, hb2⟩))
        have HB2 := hidP (HBel.out.trans (hb2.mono HBel.out.size))
        clear hb2 HBel d0 d1 d2 d3 d4
        go_wp2_with fail
        go_ret
        exact ⟨ret_i (by rw [HX.out]; simp), HB2.out⟩
    · have HX : Hid (ixF f 0 ps = -1) := by
        rw [List.drop_of_length_le (by have := HN.out; omega)] at hix
        exact hidP hix
      have HBel := hidP hbel
      clear hbel hix
      go_wp2_with fail
      go_ret
      exact ⟨ret_i HX.out.symm, HBel.out⟩

set_option maxHeartbeats 1000000 in
theorem cont_carved (f : Pl → Bool) (cb : Nat) (a : Option Addr) (n cap : Nat) (ps : List Pl) (w : World) (hn : n = ps.length) (hB : RowG KPl w a ps) (hl : n ≤ 9000000000)
    (hf : ∀ (x : Pl) (W : World), Below w.heap.size w W → Calls Tryz.prog 97 #[.agg #[.bool x.p.s, .int .i64 x.p.H.toInt, .int .i64 x.p.L.toInt, .int .i64 x.p.b, .int .i64 x.n], .pointer (some ⟨cb, 0, none⟩)] W fun e w' => e = .returned (.bool (f x)) ∧ Below W.heap.size W w') :
    Calls Tryz.prog 96 #[.slice a n cap, .func (.func 97) #[] #[.pointer (some ⟨cb, 0, none⟩)]] w fun e w' => e = .returned (.bool (ps.any f)) ∧ Below w.heap.size w w' := by
  have H := hidP (idx_carved f cb a n cap ps w hn hB hl hf)
  have HA := hidP (ixF_any f ps 0 (by omega))
  clear hn hB hl hf
  go_enter Tryz.func96, Tryz.ntmps96
  go_wp2_with fail
  refine (H.out).mono ?_
  rintro e w2 ⟨rfl, hb2⟩
  go_wp2_with fail
  go_ret
  exact ⟨ret_b HA.out, hb2⟩

set_option maxHeartbeats 1000000 in
theorem idx_place (f : Pl → Bool) (cb : Nat) (a : Option Addr) (n cap : Nat) (ps : List Pl) (w : World) (hn : n = ps.length) (hB : RowG KPl w a ps) (hl : n ≤ 9000000000)
    (hf : ∀ (x : Pl) (W : World), Below w.heap.size w W → Calls Tryz.prog 66 #[.agg #[.bool x.p.s, .int .i64 x.p.H.toInt, .int .i64 x.p.L.toInt, .int .i64 x.p.b, .int .i64 x.n], .pointer (some ⟨cb, 0, none⟩)] W fun e w' => e = .returned (.bool (f x)) ∧ Below W.heap.size W w') :
    Calls Tryz.prog 65 #[.slice a n cap, .func (.func 66) #[] #[.pointer (some ⟨cb, 0, none⟩)]] w fun e w' => e = .returned (.int .i64 (ixF f 0 ps)) ∧ Below w.heap.size w w' := by
  have HB := hidP hB
  have HN := hidP hn
  have HF := hidP hf
  clear hB hn hf
  go_enter Tryz.func65, Tryz.ntmps65
  go_wp2_with fail
  go_loopw [5, 8] (fun _ t8 wr => ∃ k : Nat, k ≤ n ∧ t8 = .int .i64 k ∧ ixF f 0 ps = ixF f k (ps.drop k) ∧ Below w.heap.size w wr) (fun _ t8 _ => n - (intOf t8).toNat)
  case atStart => exact ⟨0, Nat.zero_le _, rfl, rfl, Below.refl _ _⟩
  case round =>
    obtain ⟨k, hk, rfl, hix, hbel⟩ := hrel
    by_cases hlt : k < n
    · obtain ⟨p, o, q, rfl, hp, hq, c0, c1, c2, c3, c4⟩ := rowPl HB.out k (by rw [← HN.out]; exact hlt)
      have d0 := (hbel.cell hp).trans c0
      have d1 := (hbel.cell hp).trans c1
      have d2 := (hbel.cell hp).trans c2
      have d3 := (hbel.cell hp).trans c3
      have d4 := (hbel.cell hp).trans c4
      have HBel := hidP hbel
      have hst := ixF_step f ps k q hq
      rw [hst] at hix
      have HX := hidP hix
      have HFq := hidP (HF.out q _ hbel)
      clear hbel c0 c1 c2 c3 c4 hq hix hst
      cases hfq : f q
      · rw [hfq] at HX HFq
        go_wp2_with (first | (go_at_call 66; refine (HFq.out).mono ?_; rintro e w2 ⟨rfl, hb2⟩))
        have HB2 := hidP (HBel.out.trans (hb2.mono HBel.out.size))
        clear hb2 HBel d0 d1 d2 d3 d4
        go_wp2_with fail
        go_roundw
        case rel => exact ⟨k + 1, by omega, by go_num, by rw [HX.out]; simp, HB2.out⟩
        case measure => simp [intOf]; omega
      · rw [hfq] at HX HFq
        go_wp2_with (first | (go_at_call 66; refine (HFq.out).mono ?_; rintro e w2 ⟨rfl, hb2⟩))
        have HB2 := hidP (HBel.out.trans (hb2.mono HBel.out.size))
        clear hb2 HBel d0 d1 d2 d3 d4
        go_wp2_with fail
        go_ret
        exact ⟨ret_i (by rw [HX.out]; simp), HB2.out⟩
    · have HX : Hid (ixF f 0 ps = -1) := by
        rw [List.drop_of_length_le (by have := HN.out; omega)] at hix
        exact hidP hix
      have HBel := hidP hbel
      clear hbel hix
      go_wp2_with fail
      go_ret
      exact ⟨ret_i HX.out.symm, HBel.out⟩

end Go.Proofs.YtmbmekcppmbokaaGreat
