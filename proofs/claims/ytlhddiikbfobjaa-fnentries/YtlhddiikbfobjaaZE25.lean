/-
  The specification's l13Last and l13TermAt, exactly.
-/
import Derived.Test.YtlhddiikbfobjaaZE24
import Derived.Test.YtlhddiikbfobjaaZE10
import Derived.Test.YtlhddiikbfobjaaZE1
namespace Go.Proofs.Ytlhddiikbfobjaa
open Go.ChangeShapes Go.WideShapes Go.ChangeAt Go.RowKit Go.Joins Go.Deep


set_option maxRecDepth 10000 in
set_option maxHeartbeats 4000000 in
theorem l13Last_ex (k : Kv) (w : World) (hr : KvR w k) (hB : 0 ≤ k.B ∧ k.B ≤ 1000000) (hl : k.ln ≤ 120) :
    Calls Try.prog 61 #[k.v] w fun e w' => e = .returned (.tuple #[.int .i64 (k.B + (k.ln : Int)), .int .i64 (tmE k k.ln)]) ∧ Below w.heap.size w w' := by
  have HR := hidP (And.intro hr.hl hr.rl)
  clear hr
  obtain ⟨T, V, B, E, ga, gn, gc, ha, hn, hc, sa, sn, sc, la, ln, lc, ps, bs, es⟩ := k
  simp only at HR hB hl
  dsimp only
  by_cases h0 : ln = 0
  · subst h0
    show Calls _ _ _ _ fun e w' => e = .returned (.tuple #[.int .i64 (B + ((0 : Nat) : Int)), .int .i64 E]) ∧ Below w.heap.size w w'
    go_enter Try.func61, Try.ntmps61
    go_wp2_with fail
    obtain ⟨b0, b1, b2, b3, b4, b5, b6, b7⟩ := box8K w 29 (.int .i64 T) (.int .i64 V) (.int .i64 B) (.int .i64 E) (.slice ga gn gc) (.slice ha hn hc) (.slice sa sn sc) (.slice la 0 lc)
    have bB := alloc_below w (.cells #[.int .i64 T, .int .i64 V, .int .i64 B, .int .i64 E, .slice ga gn gc, .slice ha hn hc, .slice sa sn sc, .slice la 0 lc] 29)
    have bL : w.heap.size < (w.alloc (.cells #[.int .i64 T, .int .i64 V, .int .i64 B, .int .i64 E, .slice ga gn gc, .slice ha hn hc, .slice sa sn sc, .slice la 0 lc] 29)).heap.size := by simp
    generalize w.alloc (.cells #[.int .i64 T, .int .i64 V, .int .i64 B, .int .i64 E, .slice ga gn gc, .slice ha hn hc, .slice sa sn sc, .slice la 0 lc] 29) = W1 at *
    try go_wp2_with fail
    have HSx : Hid (∀ x, Below W1.heap.size W1 x → (x.cell? ⟨w.heap.size, 2, none⟩ = some (.int .i64 B) ∧ x.cell? ⟨w.heap.size, 3, none⟩ = some (.int .i64 E) ∧ Below W1.heap.size W1 x)) := hidP fun x h =>
      ⟨(h.cell bL).trans b2, (h.cell bL).trans b3, h⟩
    refine wp_region_held_drew (S := (fun x => x.cell? ⟨w.heap.size, 2, none⟩ = some (.int .i64 B) ∧ x.cell? ⟨w.heap.size, 3, none⟩ = some (.int .i64 E) ∧ Below W1.heap.size W1 x)) (by kernel_rfl) ?_ (fun hHeld => ?_)
    · try dsimp only
      exact HSx.out _ ((Below.refl _ _).drew)
    refine tk 0 10 rfl ?_
    simp only [pa]
    refine tk 1 11 rfl ?_
    simp only [pa]
    refine tk 2 12 rfl ?_
    simp only [pa]
    refine tk 3 13 rfl ?_
    simp only [pa]
    refine tk 4 2 rfl ?_
    simp only [pa]
    refine tk 5 3 rfl ?_
    simp only [pa]
    have HE := hidP (hHeld.2.2)
    refine wpAnyH_done (by kernel_rfl) ?_ _
    clear hHeld
    go_wp2_with fail
    refine bodyPost_ret (v := .tuple #[.int .i64 (B), .int .i64 E]) (by simp [results, Try.results61, go_sem]) rfl ⟨by rw [show B + ((0 : Nat) : Int) = B by omega], bB.trans (HE.out.mono bB.size)⟩
  · obtain ⟨p, o, q, rfl, hp, hq, c0, _, _⟩ := rowEn HR.out.2 (ln - 1) (by have := HR.out.1; omega)
    have h1 : ((ln : Int) == 0) = false := by simp; omega
    have h2 : (ln : Int) - 1 = ((ln - 1 : Nat) : Int) := by omega
    have HT : Hid (tmE ⟨T, V, B, E, ga, gn, gc, ha, hn, hc, sa, sn, sc, some ⟨p, o, none⟩, ln, lc, ps, bs, es⟩ ln = q.T) := by
      obtain ⟨m, rfl⟩ : ∃ m, ln = m + 1 := ⟨ln - 1, by omega⟩
      refine hidP ?_
      show ((es[m]?).map En.T).getD 0 = q.T
      rw [Nat.add_sub_cancel] at hq
      rw [hq]; rfl
    generalize tmE ⟨T, V, B, E, ga, gn, gc, ha, hn, hc, sa, sn, sc, some ⟨p, o, none⟩, ln, lc, ps, bs, es⟩ ln = TT at *
    generalize hm : ln - 1 = m at *
    have i0 : (0 : Int) ≤ (m : Int) := by omega
    have i1 : (m : Int) < (ln : Int) := by omega
    have iw : IntKind.i64.wrap (m : Int) = (m : Int) := by rw [IntKind.wrap_i64]; omega
    have wl : IntKind.i64.wrap (B + (ln : Int)) = B + (ln : Int) := by rw [IntKind.wrap_i64]; omega
    clear hq hm
    go_enter Try.func61, Try.ntmps61
    go_wp2_with fail
    obtain ⟨b0, b1, b2, b3, b4, b5, b6, b7⟩ := box8K w 29 (.int .i64 T) (.int .i64 V) (.int .i64 B) (.int .i64 E) (.slice ga gn gc) (.slice ha hn hc) (.slice sa sn sc) (.slice (some ⟨p, o, none⟩) ln lc)
    have bB := alloc_below w (.cells #[.int .i64 T, .int .i64 V, .int .i64 B, .int .i64 E, .slice ga gn gc, .slice ha hn hc, .slice sa sn sc, .slice (some ⟨p, o, none⟩) ln lc] 29)
    have bL : w.heap.size < (w.alloc (.cells #[.int .i64 T, .int .i64 V, .int .i64 B, .int .i64 E, .slice ga gn gc, .slice ha hn hc, .slice sa sn sc, .slice (some ⟨p, o, none⟩) ln lc] 29)).heap.size := by simp
    generalize w.alloc (.cells #[.int .i64 T, .int .i64 V, .int .i64 B, .int .i64 E, .slice ga gn gc, .slice ha hn hc, .slice sa sn sc, .slice (some ⟨p, o, none⟩) ln lc] 29) = W1 at *
    have x0 := (bB.cell hp).trans c0
    have pL : p < W1.heap.size := Nat.lt_of_lt_of_le hp bB.size
    try go_wp2_with fail
    have HSx : Hid (∀ x, Below W1.heap.size W1 x → (x.cell? ⟨w.heap.size, 2, none⟩ = some (.int .i64 B) ∧ x.cell? ⟨w.heap.size, 7, none⟩ = some (.slice (some ⟨p, o, none⟩) ln lc) ∧ x.cell? ⟨p, o + m * 3, none⟩ = some (.int .i64 q.T) ∧ Below W1.heap.size W1 x)) := hidP fun x h =>
      ⟨(h.cell bL).trans b2, (h.cell bL).trans b7, (h.cell pL).trans x0, h⟩
    refine wp_region_held_drew (S := (fun x => x.cell? ⟨w.heap.size, 2, none⟩ = some (.int .i64 B) ∧ x.cell? ⟨w.heap.size, 7, none⟩ = some (.slice (some ⟨p, o, none⟩) ln lc) ∧ x.cell? ⟨p, o + m * 3, none⟩ = some (.int .i64 q.T) ∧ Below W1.heap.size W1 x)) (by kernel_rfl) ?_ (fun hHeld => ?_)
    · try dsimp only
      exact HSx.out _ ((Below.refl _ _).drew)
    refine tk 0 14 rfl ?_
    simp only [pa]
    refine tk 1 15 rfl ?_
    simp only [pa]
    refine tk 2 16 rfl ?_
    simp only [pa]
    refine tk 3 17 rfl ?_
    simp only [pa]
    refine tk 4 18 rfl ?_
    simp only [pa]
    refine tk 5 19 rfl ?_
    simp only [pa]
    refine tk 6 20 rfl ?_
    simp only [pa]
    refine tk 7 21 rfl ?_
    simp only [pa]
    refine tk 8 22 rfl ?_
    simp only [pa]
    refine tk 9 23 rfl ?_
    simp only [pa]
    refine tk 10 24 rfl ?_
    simp only [pa]
    refine tk 11 2 rfl ?_
    simp only [pa]
    refine tk 12 3 rfl ?_
    simp only [pa]
    have HE := hidP (hHeld.2.2.2)
    refine wpAnyH_done (by kernel_rfl) ?_ _
    clear hHeld
    go_wp2_with fail
    refine bodyPost_ret (v := .tuple #[.int .i64 (B + (ln : Int)), .int .i64 q.T]) (by simp [results, Try.results61, go_sem]) rfl ⟨by rw [HT.out], bB.trans (HE.out.mono bB.size)⟩

/-- The term at an index, and whether it is there. -/
def taO (k : Kv) (x : Int) : Bool := decide (k.B ≤ x) && decide (x - k.B ≤ (k.ln : Int))
def taT (k : Kv) (x : Int) : Int := if taO k x = true then tmE k (x - k.B).toNat else 0
theorem taO_y {k : Kv} {x : Int} (h1 : k.B ≤ x) (h2 : x - k.B ≤ (k.ln : Int)) : taO k x = true := by unfold taO; rw [decide_eq_true h1, decide_eq_true h2]; rfl
theorem taO_n {k : Kv} {x : Int} (h : x < k.B ∨ (k.ln : Int) < x - k.B) : taO k x = false := by
  unfold taO
  rcases h with h | h
  · rw [decide_eq_false (by omega)]; rfl
  · rw [decide_eq_false (show ¬ x - k.B ≤ (k.ln : Int) by omega), Bool.and_false]
theorem taT_y {k : Kv} {x : Int} (i : Nat) (hx : x = k.B + (i : Int)) (hi : i ≤ k.ln) : taT k x = tmE k i := by
  unfold taT
  rw [if_pos (taO_y (by omega) (by omega)), show (x - k.B).toNat = i by omega]
theorem taT_n {k : Kv} {x : Int} (h : taO k x = false) : taT k x = 0 := by
  unfold taT
  rw [if_neg (by rw [h]; decide)]
set_option maxRecDepth 10000 in
set_option maxHeartbeats 4000000 in
theorem l13TermAt_ex (k : Kv) (x : Int) (w : World) (hr : KvR w k) (hB : 0 ≤ k.B ∧ k.B ≤ 1000000) (hl : k.ln ≤ 120) (hx1 : x ≤ 9223372036854775807) :
    Calls Try.prog 62 #[k.v, .int .i64 x] w fun e w' => e = .returned (.tuple #[.int .i64 (taT k x), .bool (taO k x)]) ∧ Below w.heap.size w w' := by
  have HR := hidP (And.intro hr.hl hr.rl)
  clear hr
  by_cases h0 : x = k.B
  · rw [taT_y 0 (by omega) (Nat.zero_le _), taO_y (by omega) (by omega)]
    show Calls _ _ _ _ fun e w' => e = .returned (.tuple #[.int .i64 k.E, .bool true]) ∧ Below w.heap.size w w'
    obtain ⟨T, V, B, E, ga, gn, gc, ha, hn, hc, sa, sn, sc, la, ln, lc, ps, bs, es⟩ := k
    simp only at HR hB hl h0
    subst h0
    go_enter Try.func62, Try.ntmps62
    go_wp2_with fail
    obtain ⟨b0, b1, b2, b3, b4, b5, b6, b7⟩ := box8K w 29 (.int .i64 T) (.int .i64 V) (.int .i64 x) (.int .i64 E) (.slice ga gn gc) (.slice ha hn hc) (.slice sa sn sc) (.slice la ln lc)
    have bB := alloc_below w (.cells #[.int .i64 T, .int .i64 V, .int .i64 x, .int .i64 E, .slice ga gn gc, .slice ha hn hc, .slice sa sn sc, .slice la ln lc] 29)
    have bL : w.heap.size < (w.alloc (.cells #[.int .i64 T, .int .i64 V, .int .i64 x, .int .i64 E, .slice ga gn gc, .slice ha hn hc, .slice sa sn sc, .slice la ln lc] 29)).heap.size := by simp
    generalize w.alloc (.cells #[.int .i64 T, .int .i64 V, .int .i64 x, .int .i64 E, .slice ga gn gc, .slice ha hn hc, .slice sa sn sc, .slice la ln lc] 29) = W1 at *
    try go_wp2_with fail
    refine bodyPost_ret (v := .tuple #[.int .i64 (E), .bool true]) (by simp [results, Try.results62, go_sem]) rfl ⟨rfl, bB⟩
  · have e0 : (x == k.B) = false := by simpa using h0
    by_cases h1 : k.B < x
    · have e1 : decide (x > k.B) = true := decide_eq_true h1
      have e2 : decide (k.B < x) = true := decide_eq_true h1
      have wx : IntKind.i64.wrap (x - k.B) = x - k.B := by rw [IntKind.wrap_i64]; omega
      by_cases h2 : x - k.B ≤ (k.ln : Int)
      · have e3 : decide (x - k.B ≤ (k.ln : Int)) = true := decide_eq_true h2
        obtain ⟨m, hm⟩ : ∃ m : Nat, x - k.B - 1 = (m : Int) := ⟨(x - k.B - 1).toNat, by omega⟩
        rw [taT_y (m + 1) (by omega) (by omega), taO_y (by omega) h2]
        obtain ⟨p, o, q, ha, hp, hq, c0, _, _⟩ := rowEn HR.out.2 m (by have := HR.out.1; omega)
        have ht : tmE k (m + 1) = q.T := by show ((k.es[m]?).map En.T).getD 0 = q.T; rw [hq]; rfl
        rw [ht]
        have i0 : (0 : Int) ≤ (m : Int) := by omega
        have i1 : (m : Int) < (k.ln : Int) := by omega
        have iw : IntKind.i64.wrap (m : Int) = (m : Int) := by rw [IntKind.wrap_i64]; omega
        clear hq ht
        obtain ⟨T, V, B, E, ga, gn, gc, ha, hn, hc, sa, sn, sc, la, ln, lc, ps, bs, es⟩ := k
        simp only at HR hB hl h0 e0 h1 e1 e2 wx h2 e3 hm i1 ha
        subst ha
        go_enter Try.func62, Try.ntmps62
        go_wp2_with fail
        obtain ⟨b0, b1, b2, b3, b4, b5, b6, b7⟩ := box8K w 29 (.int .i64 T) (.int .i64 V) (.int .i64 B) (.int .i64 E) (.slice ga gn gc) (.slice ha hn hc) (.slice sa sn sc) (.slice (some ⟨p, o, none⟩) ln lc)
        have bB := alloc_below w (.cells #[.int .i64 T, .int .i64 V, .int .i64 B, .int .i64 E, .slice ga gn gc, .slice ha hn hc, .slice sa sn sc, .slice (some ⟨p, o, none⟩) ln lc] 29)
        have bL : w.heap.size < (w.alloc (.cells #[.int .i64 T, .int .i64 V, .int .i64 B, .int .i64 E, .slice ga gn gc, .slice ha hn hc, .slice sa sn sc, .slice (some ⟨p, o, none⟩) ln lc] 29)).heap.size := by simp
        generalize w.alloc (.cells #[.int .i64 T, .int .i64 V, .int .i64 B, .int .i64 E, .slice ga gn gc, .slice ha hn hc, .slice sa sn sc, .slice (some ⟨p, o, none⟩) ln lc] 29) = W1 at *
        have y0 := (bB.cell hp).trans c0
        try go_wp2_with fail
        refine bodyPost_ret (v := .tuple #[.int .i64 (q.T), .bool true]) (by simp [results, Try.results62, go_sem]) rfl ⟨rfl, bB⟩
      · have e3 : decide (x - k.B ≤ (k.ln : Int)) = false := decide_eq_false h2
        have hn := taO_n (k := k) (x := x) (Or.inr (by omega))
        rw [taT_n hn, hn]
        clear hn
        obtain ⟨T, V, B, E, ga, gn, gc, ha, hn, hc, sa, sn, sc, la, ln, lc, ps, bs, es⟩ := k
        simp only at HR hB hl h0 e0 h1 e1 e2 wx h2 e3
        go_enter Try.func62, Try.ntmps62
        go_wp2_with fail
        obtain ⟨b0, b1, b2, b3, b4, b5, b6, b7⟩ := box8K w 29 (.int .i64 T) (.int .i64 V) (.int .i64 B) (.int .i64 E) (.slice ga gn gc) (.slice ha hn hc) (.slice sa sn sc) (.slice la ln lc)
        have bB := alloc_below w (.cells #[.int .i64 T, .int .i64 V, .int .i64 B, .int .i64 E, .slice ga gn gc, .slice ha hn hc, .slice sa sn sc, .slice la ln lc] 29)
        have bL : w.heap.size < (w.alloc (.cells #[.int .i64 T, .int .i64 V, .int .i64 B, .int .i64 E, .slice ga gn gc, .slice ha hn hc, .slice sa sn sc, .slice la ln lc] 29)).heap.size := by simp
        generalize w.alloc (.cells #[.int .i64 T, .int .i64 V, .int .i64 B, .int .i64 E, .slice ga gn gc, .slice ha hn hc, .slice sa sn sc, .slice la ln lc] 29) = W1 at *
        try go_wp2_with fail
        refine bodyPost_ret (v := .tuple #[.int .i64 (0), .bool false]) (by simp [results, Try.results62, go_sem]) rfl ⟨rfl, bB⟩
    · have e1 : decide (x > k.B) = false := decide_eq_false h1
      have e2 : decide (k.B < x) = false := decide_eq_false h1
      have hn := taO_n (k := k) (x := x) (Or.inl (by omega))
      rw [taT_n hn, hn]
      clear hn
      obtain ⟨T, V, B, E, ga, gn, gc, ha, hn, hc, sa, sn, sc, la, ln, lc, ps, bs, es⟩ := k
      simp only at HR hB hl h0 e0 h1 e1 e2
      go_enter Try.func62, Try.ntmps62
      go_wp2_with fail
      obtain ⟨b0, b1, b2, b3, b4, b5, b6, b7⟩ := box8K w 29 (.int .i64 T) (.int .i64 V) (.int .i64 B) (.int .i64 E) (.slice ga gn gc) (.slice ha hn hc) (.slice sa sn sc) (.slice la ln lc)
      have bB := alloc_below w (.cells #[.int .i64 T, .int .i64 V, .int .i64 B, .int .i64 E, .slice ga gn gc, .slice ha hn hc, .slice sa sn sc, .slice la ln lc] 29)
      have bL : w.heap.size < (w.alloc (.cells #[.int .i64 T, .int .i64 V, .int .i64 B, .int .i64 E, .slice ga gn gc, .slice ha hn hc, .slice sa sn sc, .slice la ln lc] 29)).heap.size := by simp
      generalize w.alloc (.cells #[.int .i64 T, .int .i64 V, .int .i64 B, .int .i64 E, .slice ga gn gc, .slice ha hn hc, .slice sa sn sc, .slice la ln lc] 29) = W1 at *
      try go_wp2_with fail
      refine bodyPost_ret (v := .tuple #[.int .i64 (0), .bool false]) (by simp [results, Try.results62, go_sem]) rfl ⟨rfl, bB⟩

end Go.Proofs.Ytlhddiikbfobjaa
