/-
  Two rows of numbers held against each other; comesAfter.
-/
import Derived.Test.YtnngbeoeocbofaaV12Ok
import Derived.Deep.RegionHeld3
namespace Go.Proofs.Ytnngbeoeocbofaa
open Go.ChangeShapes Go.WideShapes Go.ChangeAt Go.RowKit Go.Joins Go.Deep

/-- Whether two rows are the same. -/
def eqZ (xs ys : List Int) : Bool := decide (xs = ys)
theorem eqZ_len {xs ys : List Int} (h : xs.length ≠ ys.length) : eqZ xs ys = false := decide_eq_false (fun e => h (by rw [e]))
theorem eqZ_ne {x y : Int} {xs ys : List Int} (h : x ≠ y) : eqZ (x :: xs) (y :: ys) = false := decide_eq_false (fun e => h (by simp at e; exact e.1))
theorem eqZ_eq {x : Int} {xs ys : List Int} : eqZ (x :: xs) (x :: ys) = eqZ xs ys := decide_eq_decide.2 (by simp)
theorem eqZ_comm (xs ys : List Int) : eqZ xs ys = eqZ ys xs := decide_eq_decide.2 eq_comm

set_option maxRecDepth 10000 in
set_option maxHeartbeats 2000000 in
theorem equalI (a b : Option Addr) (n ca m cb : Nat) (xs ys : List Int) (w : World) (hn : n = xs.length) (hm : m = ys.length) (h1 : RowG KI w a xs) (h2 : RowG KI w b ys) (hl : n ≤ 1048576) (hl' : m ≤ 1048576) :
    Calls Try.prog 58 #[.slice a n ca, .slice b m cb] w fun e w' => e = .returned (.bool (eqZ xs ys)) ∧ Below w.heap.size w w' := by
  by_cases hnm : n = m
  · subst hnm
    have HA := hidP h1
    have HB := hidP h2
    have HN := hidP hn
    have HM := hidP hm
    clear h1 h2 hn hm
    go_enter Try.func58, Try.ntmps58
    go_wp2_with fail
    go_loopw [5, 13] (fun _ t13 wr => ∃ k : Nat, k ≤ n ∧ t13 = .int .i64 k ∧ eqZ xs ys = eqZ (xs.drop k) (ys.drop k) ∧ Below w.heap.size w wr) (fun _ t13 _ => n - (intOf t13).toNat)
    case atStart => exact ⟨0, Nat.zero_le _, rfl, rfl, Below.refl _ _⟩
    case round =>
      obtain ⟨k, hk, rfl, hpo, hbel⟩ := hrel
      have HW := hidP hbel
      by_cases hlt : k < n
      · obtain ⟨p, o, q, rfl, hp, hq, c0⟩ := rowI HA.out k (by rw [← HN.out]; exact hlt)
        obtain ⟨p', o', q', rfl, hp', hq', c1⟩ := rowI HB.out k (by rw [← HM.out]; exact hlt)
        have z0 := (hbel.cell hp).trans c0
        have y0 := (hbel.cell hp').trans c1
        have zL : p < wr.heap.size := Nat.lt_of_lt_of_le hp hbel.size
        have yL : p' < wr.heap.size := Nat.lt_of_lt_of_le hp' hbel.size
        rw [dropI hq, dropI hq'] at hpo
        have kw : IntKind.i64.wrap (k : Int) = (k : Int) := by rw [IntKind.wrap_i64]; omega
        have k0 : (0 : Int) ≤ (k : Int) := by omega
        have k1 : (k : Int) < (n : Int) := by omega
        clear c0 c1 hq hq' hbel
        by_cases he : q = q'
        · subst he
          rw [eqZ_eq] at hpo
          have HPo := hidP hpo
          clear hpo
          go_wp2_with fail
          have HSx : Hid (∀ x, Below wr.heap.size wr x → (x.cell? ⟨p, o + k, none⟩ = some (.int .i64 q) ∧ x.cell? ⟨p', o' + k, none⟩ = some (.int .i64 q) ∧ Below wr.heap.size wr x)) := hidP fun x h =>
            ⟨(h.cell zL).trans z0, (h.cell yL).trans y0, h⟩
          refine wp_region_held_drew (S := (fun x => x.cell? ⟨p, o + k, none⟩ = some (.int .i64 q) ∧ x.cell? ⟨p', o' + k, none⟩ = some (.int .i64 q) ∧ Below wr.heap.size wr x)) (by kernel_rfl) ?_ (fun hHeld => ?_)
          · try dsimp only
            exact HSx.out _ ((Below.refl _ _).drew)
          refine wpAnyH_take (i := 0) (oi := ⟨some 16, _, _, _, _, _⟩) (v := ?_) rfl (by kernel_rfl) (by kernel_rfl) (by kernel_rfl) (fun _ _ _ h => h) (Or.inl ⟨by rfl, ?_⟩) (by assumption) ?_
          rotate_left
          · intro w hSw
            try dsimp only at hSw
            go_simp
            try with_reducible rfl
          simp only [Act.put, List.setIfInBounds_toArray, List.set_cons_zero, List.set_cons_succ]
          refine wpAnyH_take (i := 1) (oi := ⟨some 17, _, _, _, _, _⟩) (v := ?_) rfl (by kernel_rfl) (by kernel_rfl) (by kernel_rfl) (fun _ _ _ h => h) (Or.inl ⟨by rfl, ?_⟩) (by assumption) ?_
          rotate_left
          · intro w hSw
            try dsimp only at hSw
            go_simp
            try with_reducible rfl
          simp only [Act.put, List.setIfInBounds_toArray, List.set_cons_zero, List.set_cons_succ]
          refine wpAnyH_take (i := 2) (oi := ⟨some 18, _, _, _, _, _⟩) (v := ?_) rfl (by kernel_rfl) (by kernel_rfl) (by kernel_rfl) (fun _ _ _ h => h) (Or.inl ⟨by rfl, ?_⟩) (by assumption) ?_
          rotate_left
          · intro w hSw
            try dsimp only at hSw
            go_simp
            try with_reducible rfl
          simp only [Act.put, List.setIfInBounds_toArray, List.set_cons_zero, List.set_cons_succ]
          refine wpAnyH_take (i := 3) (oi := ⟨some 19, _, _, _, _, _⟩) (v := ?_) rfl (by kernel_rfl) (by kernel_rfl) (by kernel_rfl) (fun _ _ _ h => h) (Or.inl ⟨by rfl, ?_⟩) (by assumption) ?_
          rotate_left
          · intro w hSw
            try dsimp only at hSw
            go_simp
            try with_reducible rfl
          simp only [Act.put, List.setIfInBounds_toArray, List.set_cons_zero, List.set_cons_succ]
          refine wpAnyH_take (i := 4) (oi := ⟨some 20, _, _, _, _, _⟩) (v := ?_) rfl (by kernel_rfl) (by kernel_rfl) (by kernel_rfl) (fun _ _ _ h => h) (Or.inl ⟨by rfl, ?_⟩) (by assumption) ?_
          rotate_left
          · intro w hSw
            try dsimp only at hSw
            go_simp
            try with_reducible rfl
          simp only [Act.put, List.setIfInBounds_toArray, List.set_cons_zero, List.set_cons_succ]
          refine wpAnyH_take (i := 5) (oi := ⟨some 21, _, _, _, _, _⟩) (v := ?_) rfl (by kernel_rfl) (by kernel_rfl) (by kernel_rfl) (fun _ _ _ h => h) (Or.inl ⟨by rfl, ?_⟩) (by assumption) ?_
          rotate_left
          · intro w hSw
            try dsimp only at hSw
            go_simp
            try with_reducible rfl
          simp only [Act.put, List.setIfInBounds_toArray, List.set_cons_zero, List.set_cons_succ]
          refine wpAnyH_take (i := 6) (oi := ⟨some 22, _, _, _, _, _⟩) (v := ?_) rfl (by kernel_rfl) (by kernel_rfl) (by kernel_rfl) (fun _ _ _ h => h) (Or.inl ⟨by rfl, ?_⟩) (by assumption) ?_
          rotate_left
          · intro w hSw
            try dsimp only at hSw
            go_simp
            try with_reducible rfl
          simp only [Act.put, List.setIfInBounds_toArray, List.set_cons_zero, List.set_cons_succ]
          refine wpAnyH_take (i := 7) (oi := ⟨some 23, _, _, _, _, _⟩) (v := ?_) rfl (by kernel_rfl) (by kernel_rfl) (by kernel_rfl) (fun _ _ _ h => h) (Or.inl ⟨by rfl, ?_⟩) (by assumption) ?_
          rotate_left
          · intro w hSw
            try dsimp only at hSw
            go_simp
            try with_reducible rfl
          simp only [Act.put, List.setIfInBounds_toArray, List.set_cons_zero, List.set_cons_succ]
          refine wpAnyH_take (i := 8) (oi := ⟨some 24, _, _, _, _, _⟩) (v := ?_) rfl (by kernel_rfl) (by kernel_rfl) (by kernel_rfl) (fun _ _ _ h => h) (Or.inl ⟨by rfl, ?_⟩) (by assumption) ?_
          rotate_left
          · intro w hSw
            try dsimp only at hSw
            go_simp
            try with_reducible rfl
          simp only [Act.put, List.setIfInBounds_toArray, List.set_cons_zero, List.set_cons_succ]
          have HE := hidP (hHeld.2.2)
          refine wpAnyH_done (by kernel_rfl) ?_ _
          clear hHeld
          go_wp2_with fail
          go_roundw
          case rel => exact ⟨k + 1, by omega, by go_num, HPo.out, HW.out.trans (HE.out.mono HW.out.size)⟩
          case measure => simp [intOf]; omega
        · rw [eqZ_ne he] at hpo
          have HPo := hidP hpo
          have g1 : (q == q') = false := by simp [he]
          have g2 : (q != q') = true := by simp [he]
          have g3 : decide (q = q') = false := decide_eq_false he
          clear hpo
          go_wp2_with fail
          have HSx : Hid (∀ x, Below wr.heap.size wr x → (x.cell? ⟨p, o + k, none⟩ = some (.int .i64 q) ∧ x.cell? ⟨p', o' + k, none⟩ = some (.int .i64 q') ∧ Below wr.heap.size wr x)) := hidP fun x h =>
            ⟨(h.cell zL).trans z0, (h.cell yL).trans y0, h⟩
          refine wp_region_held_drew (S := (fun x => x.cell? ⟨p, o + k, none⟩ = some (.int .i64 q) ∧ x.cell? ⟨p', o' + k, none⟩ = some (.int .i64 q') ∧ Below wr.heap.size wr x)) (by kernel_rfl) ?_ (fun hHeld => ?_)
          · try dsimp only
            exact HSx.out _ ((Below.refl _ _).drew)
          refine wpAnyH_take (i := 0) (oi := ⟨some 16, _, _, _, _, _⟩) (v := ?_) rfl (by kernel_rfl) (by kernel_rfl) (by kernel_rfl) (fun _ _ _ h => h) (Or.inl ⟨by rfl, ?_⟩) (by assumption) ?_
          rotate_left
          · intro w hSw
            try dsimp only at hSw
            go_simp
            try with_reducible rfl
          simp only [Act.put, List.setIfInBounds_toArray, List.set_cons_zero, List.set_cons_succ]
          refine wpAnyH_take (i := 1) (oi := ⟨some 17, _, _, _, _, _⟩) (v := ?_) rfl (by kernel_rfl) (by kernel_rfl) (by kernel_rfl) (fun _ _ _ h => h) (Or.inl ⟨by rfl, ?_⟩) (by assumption) ?_
          rotate_left
          · intro w hSw
            try dsimp only at hSw
            go_simp
            try with_reducible rfl
          simp only [Act.put, List.setIfInBounds_toArray, List.set_cons_zero, List.set_cons_succ]
          refine wpAnyH_take (i := 2) (oi := ⟨some 18, _, _, _, _, _⟩) (v := ?_) rfl (by kernel_rfl) (by kernel_rfl) (by kernel_rfl) (fun _ _ _ h => h) (Or.inl ⟨by rfl, ?_⟩) (by assumption) ?_
          rotate_left
          · intro w hSw
            try dsimp only at hSw
            go_simp
            try with_reducible rfl
          simp only [Act.put, List.setIfInBounds_toArray, List.set_cons_zero, List.set_cons_succ]
          refine wpAnyH_take (i := 3) (oi := ⟨some 19, _, _, _, _, _⟩) (v := ?_) rfl (by kernel_rfl) (by kernel_rfl) (by kernel_rfl) (fun _ _ _ h => h) (Or.inl ⟨by rfl, ?_⟩) (by assumption) ?_
          rotate_left
          · intro w hSw
            try dsimp only at hSw
            go_simp
            try with_reducible rfl
          simp only [Act.put, List.setIfInBounds_toArray, List.set_cons_zero, List.set_cons_succ]
          refine wpAnyH_take (i := 4) (oi := ⟨some 20, _, _, _, _, _⟩) (v := ?_) rfl (by kernel_rfl) (by kernel_rfl) (by kernel_rfl) (fun _ _ _ h => h) (Or.inl ⟨by rfl, ?_⟩) (by assumption) ?_
          rotate_left
          · intro w hSw
            try dsimp only at hSw
            go_simp
            try with_reducible rfl
          simp only [Act.put, List.setIfInBounds_toArray, List.set_cons_zero, List.set_cons_succ]
          refine wpAnyH_take (i := 5) (oi := ⟨some 21, _, _, _, _, _⟩) (v := ?_) rfl (by kernel_rfl) (by kernel_rfl) (by kernel_rfl) (fun _ _ _ h => h) (Or.inl ⟨by rfl, ?_⟩) (by assumption) ?_
          rotate_left
          · intro w hSw
            try dsimp only at hSw
            go_simp
            try with_reducible rfl
          simp only [Act.put, List.setIfInBounds_toArray, List.set_cons_zero, List.set_cons_succ]
          refine wpAnyH_take (i := 6) (oi := ⟨some 22, _, _, _, _, _⟩) (v := ?_) rfl (by kernel_rfl) (by kernel_rfl) (by kernel_rfl) (fun _ _ _ h => h) (Or.inl ⟨by rfl, ?_⟩) (by assumption) ?_
          rotate_left
          · intro w hSw
            try dsimp only at hSw
            go_simp
            try with_reducible rfl
          simp only [Act.put, List.setIfInBounds_toArray, List.set_cons_zero, List.set_cons_succ]
          refine wpAnyH_take (i := 7) (oi := ⟨some 23, _, _, _, _, _⟩) (v := ?_) rfl (by kernel_rfl) (by kernel_rfl) (by kernel_rfl) (fun _ _ _ h => h) (Or.inl ⟨by rfl, ?_⟩) (by assumption) ?_
          rotate_left
          · intro w hSw
            try dsimp only at hSw
            go_simp
            try with_reducible rfl
          simp only [Act.put, List.setIfInBounds_toArray, List.set_cons_zero, List.set_cons_succ]
          refine wpAnyH_take (i := 8) (oi := ⟨some 24, _, _, _, _, _⟩) (v := ?_) rfl (by kernel_rfl) (by kernel_rfl) (by kernel_rfl) (fun _ _ _ h => h) (Or.inl ⟨by rfl, ?_⟩) (by assumption) ?_
          rotate_left
          · intro w hSw
            try dsimp only at hSw
            go_simp
            try with_reducible rfl
          simp only [Act.put, List.setIfInBounds_toArray, List.set_cons_zero, List.set_cons_succ]
          have HE := hidP (hHeld.2.2)
          refine wpAnyH_done (by kernel_rfl) ?_ _
          clear hHeld
          go_wp2_with fail
          go_ret
          exact ⟨retB HPo.out.symm, HW.out.trans (HE.out.mono HW.out.size)⟩
      · have HPo : Hid (eqZ xs ys = true) := by
          rw [List.drop_of_length_le (by have := HN.out; omega), List.drop_of_length_le (by have := HM.out; omega)] at hpo
          exact hidP hpo
        clear hbel hpo
        go_wp2_with fail
        go_ret
        exact ⟨retB HPo.out.symm, HW.out⟩
  · rw [eqZ_len (by rw [← hn, ← hm]; exact hnm)]
    have g1 : ((n : Int) == (m : Int)) = false := by simp; omega
    have g2 : ((n : Int) != (m : Int)) = true := by simp; omega
    have g3 : decide ((n : Int) = (m : Int)) = false := decide_eq_false (by omega)
    clear h1 h2 hn hm
    go_enter Try.func58, Try.ntmps58
    go_wp2_with fail
    go_ret
    exact ⟨rfl, Below.refl _ _⟩

set_option maxRecDepth 10000 in
set_option maxHeartbeats 2000000 in
theorem l12Same_any (a b : Option Addr) (n ca m cb : Nat) (xs ys : List Int) (w : World) (hn : n = xs.length) (hm : m = ys.length) (h1 : RowG KI w a xs) (h2 : RowG KI w b ys) (hl : n ≤ 1048576) (hl' : m ≤ 1048576) :
    Calls Try.prog 45 #[.slice a n ca, .slice b m cb] w fun e w' => e = .returned (.bool (eqZ xs ys)) ∧ Below w.heap.size w w' := by
  by_cases hnm : n = m
  · subst hnm
    have HA := hidP h1
    have HB := hidP h2
    have HN := hidP hn
    have HM := hidP hm
    clear h1 h2 hn hm
    go_enter Try.func45, Try.ntmps45
    go_wp2_with fail
    go_loopw [5] (fun t5 wr => ∃ k : Nat, k ≤ n ∧ t5 = .int .i64 k ∧ eqZ xs ys = eqZ (xs.drop k) (ys.drop k) ∧ Below w.heap.size w wr) (fun t5 _ => n - (intOf t5).toNat)
    case atStart => exact ⟨0, Nat.zero_le _, rfl, rfl, Below.refl _ _⟩
    case round =>
      obtain ⟨k, hk, rfl, hpo, hbel⟩ := hrel
      have HW := hidP hbel
      by_cases hlt : k < n
      · obtain ⟨p, o, q, rfl, hp, hq, c0⟩ := rowI HA.out k (by rw [← HN.out]; exact hlt)
        obtain ⟨p', o', q', rfl, hp', hq', c1⟩ := rowI HB.out k (by rw [← HM.out]; exact hlt)
        have z0 := (hbel.cell hp).trans c0
        have y0 := (hbel.cell hp').trans c1
        have zL : p < wr.heap.size := Nat.lt_of_lt_of_le hp hbel.size
        have yL : p' < wr.heap.size := Nat.lt_of_lt_of_le hp' hbel.size
        rw [dropI hq, dropI hq'] at hpo
        have kw : IntKind.i64.wrap (k : Int) = (k : Int) := by rw [IntKind.wrap_i64]; omega
        have k0 : (0 : Int) ≤ (k : Int) := by omega
        have k1 : (k : Int) < (n : Int) := by omega
        clear c0 c1 hq hq' hbel
        by_cases he : q = q'
        · subst he
          rw [eqZ_eq] at hpo
          have HPo := hidP hpo
          clear hpo
          go_wp2_with fail
          have HSx : Hid (∀ x, Below wr.heap.size wr x → (x.cell? ⟨p, o + k, none⟩ = some (.int .i64 q) ∧ x.cell? ⟨p', o' + k, none⟩ = some (.int .i64 q) ∧ Below wr.heap.size wr x)) := hidP fun x h =>
            ⟨(h.cell zL).trans z0, (h.cell yL).trans y0, h⟩
          refine wp_region_held_drew (S := (fun x => x.cell? ⟨p, o + k, none⟩ = some (.int .i64 q) ∧ x.cell? ⟨p', o' + k, none⟩ = some (.int .i64 q) ∧ Below wr.heap.size wr x)) (by kernel_rfl) ?_ (fun hHeld => ?_)
          · try dsimp only
            exact HSx.out _ ((Below.refl _ _).drew)
          refine wpAnyH_take (i := 0) (oi := ⟨some 17, _, _, _, _, _⟩) (v := ?_) rfl (by kernel_rfl) (by kernel_rfl) (by kernel_rfl) (fun _ _ _ h => h) (Or.inl ⟨by rfl, ?_⟩) (by assumption) ?_
          rotate_left
          · intro w hSw
            try dsimp only at hSw
            go_simp
            try with_reducible rfl
          simp only [Act.put, List.setIfInBounds_toArray, List.set_cons_zero, List.set_cons_succ]
          refine wpAnyH_take (i := 1) (oi := ⟨some 18, _, _, _, _, _⟩) (v := ?_) rfl (by kernel_rfl) (by kernel_rfl) (by kernel_rfl) (fun _ _ _ h => h) (Or.inl ⟨by rfl, ?_⟩) (by assumption) ?_
          rotate_left
          · intro w hSw
            try dsimp only at hSw
            go_simp
            try with_reducible rfl
          simp only [Act.put, List.setIfInBounds_toArray, List.set_cons_zero, List.set_cons_succ]
          refine wpAnyH_take (i := 2) (oi := ⟨some 19, _, _, _, _, _⟩) (v := ?_) rfl (by kernel_rfl) (by kernel_rfl) (by kernel_rfl) (fun _ _ _ h => h) (Or.inl ⟨by rfl, ?_⟩) (by assumption) ?_
          rotate_left
          · intro w hSw
            try dsimp only at hSw
            go_simp
            try with_reducible rfl
          simp only [Act.put, List.setIfInBounds_toArray, List.set_cons_zero, List.set_cons_succ]
          refine wpAnyH_take (i := 3) (oi := ⟨some 20, _, _, _, _, _⟩) (v := ?_) rfl (by kernel_rfl) (by kernel_rfl) (by kernel_rfl) (fun _ _ _ h => h) (Or.inl ⟨by rfl, ?_⟩) (by assumption) ?_
          rotate_left
          · intro w hSw
            try dsimp only at hSw
            go_simp
            try with_reducible rfl
          simp only [Act.put, List.setIfInBounds_toArray, List.set_cons_zero, List.set_cons_succ]
          refine wpAnyH_take (i := 4) (oi := ⟨some 21, _, _, _, _, _⟩) (v := ?_) rfl (by kernel_rfl) (by kernel_rfl) (by kernel_rfl) (fun _ _ _ h => h) (Or.inl ⟨by rfl, ?_⟩) (by assumption) ?_
          rotate_left
          · intro w hSw
            try dsimp only at hSw
            go_simp
            try with_reducible rfl
          simp only [Act.put, List.setIfInBounds_toArray, List.set_cons_zero, List.set_cons_succ]
          refine wpAnyH_take (i := 5) (oi := ⟨some 22, _, _, _, _, _⟩) (v := ?_) rfl (by kernel_rfl) (by kernel_rfl) (by kernel_rfl) (fun _ _ _ h => h) (Or.inl ⟨by rfl, ?_⟩) (by assumption) ?_
          rotate_left
          · intro w hSw
            try dsimp only at hSw
            go_simp
            try with_reducible rfl
          simp only [Act.put, List.setIfInBounds_toArray, List.set_cons_zero, List.set_cons_succ]
          refine wpAnyH_take (i := 6) (oi := ⟨some 23, _, _, _, _, _⟩) (v := ?_) rfl (by kernel_rfl) (by kernel_rfl) (by kernel_rfl) (fun _ _ _ h => h) (Or.inl ⟨by rfl, ?_⟩) (by assumption) ?_
          rotate_left
          · intro w hSw
            try dsimp only at hSw
            go_simp
            try with_reducible rfl
          simp only [Act.put, List.setIfInBounds_toArray, List.set_cons_zero, List.set_cons_succ]
          refine wpAnyH_take (i := 7) (oi := ⟨some 24, _, _, _, _, _⟩) (v := ?_) rfl (by kernel_rfl) (by kernel_rfl) (by kernel_rfl) (fun _ _ _ h => h) (Or.inl ⟨by rfl, ?_⟩) (by assumption) ?_
          rotate_left
          · intro w hSw
            try dsimp only at hSw
            go_simp
            try with_reducible rfl
          simp only [Act.put, List.setIfInBounds_toArray, List.set_cons_zero, List.set_cons_succ]
          refine wpAnyH_take (i := 8) (oi := ⟨some 25, _, _, _, _, _⟩) (v := ?_) rfl (by kernel_rfl) (by kernel_rfl) (by kernel_rfl) (fun _ _ _ h => h) (Or.inl ⟨by rfl, ?_⟩) (by assumption) ?_
          rotate_left
          · intro w hSw
            try dsimp only at hSw
            go_simp
            try with_reducible rfl
          simp only [Act.put, List.setIfInBounds_toArray, List.set_cons_zero, List.set_cons_succ]
          have HE := hidP (hHeld.2.2)
          refine wpAnyH_done (by kernel_rfl) ?_ _
          clear hHeld
          go_wp2_with fail
          go_roundw
          case rel => exact ⟨k + 1, by omega, by go_num, HPo.out, HW.out.trans (HE.out.mono HW.out.size)⟩
          case measure => simp [intOf]; omega
        · rw [eqZ_ne he] at hpo
          have HPo := hidP hpo
          have g1 : (q == q') = false := by simp [he]
          have g2 : (q != q') = true := by simp [he]
          have g3 : decide (q = q') = false := decide_eq_false he
          clear hpo
          go_wp2_with fail
          have HSx : Hid (∀ x, Below wr.heap.size wr x → (x.cell? ⟨p, o + k, none⟩ = some (.int .i64 q) ∧ x.cell? ⟨p', o' + k, none⟩ = some (.int .i64 q') ∧ Below wr.heap.size wr x)) := hidP fun x h =>
            ⟨(h.cell zL).trans z0, (h.cell yL).trans y0, h⟩
          refine wp_region_held_drew (S := (fun x => x.cell? ⟨p, o + k, none⟩ = some (.int .i64 q) ∧ x.cell? ⟨p', o' + k, none⟩ = some (.int .i64 q') ∧ Below wr.heap.size wr x)) (by kernel_rfl) ?_ (fun hHeld => ?_)
          · try dsimp only
            exact HSx.out _ ((Below.refl _ _).drew)
          refine wpAnyH_take (i := 0) (oi := ⟨some 17, _, _, _, _, _⟩) (v := ?_) rfl (by kernel_rfl) (by kernel_rfl) (by kernel_rfl) (fun _ _ _ h => h) (Or.inl ⟨by rfl, ?_⟩) (by assumption) ?_
          rotate_left
          · intro w hSw
            try dsimp only at hSw
            go_simp
            try with_reducible rfl
          simp only [Act.put, List.setIfInBounds_toArray, List.set_cons_zero, List.set_cons_succ]
          refine wpAnyH_take (i := 1) (oi := ⟨some 18, _, _, _, _, _⟩) (v := ?_) rfl (by kernel_rfl) (by kernel_rfl) (by kernel_rfl) (fun _ _ _ h => h) (Or.inl ⟨by rfl, ?_⟩) (by assumption) ?_
          rotate_left
          · intro w hSw
            try dsimp only at hSw
            go_simp
            try with_reducible rfl
          simp only [Act.put, List.setIfInBounds_toArray, List.set_cons_zero, List.set_cons_succ]
          refine wpAnyH_take (i := 2) (oi := ⟨some 19, _, _, _, _, _⟩) (v := ?_) rfl (by kernel_rfl) (by kernel_rfl) (by kernel_rfl) (fun _ _ _ h => h) (Or.inl ⟨by rfl, ?_⟩) (by assumption) ?_
          rotate_left
          · intro w hSw
            try dsimp only at hSw
            go_simp
            try with_reducible rfl
          simp only [Act.put, List.setIfInBounds_toArray, List.set_cons_zero, List.set_cons_succ]
          refine wpAnyH_take (i := 3) (oi := ⟨some 20, _, _, _, _, _⟩) (v := ?_) rfl (by kernel_rfl) (by kernel_rfl) (by kernel_rfl) (fun _ _ _ h => h) (Or.inl ⟨by rfl, ?_⟩) (by assumption) ?_
          rotate_left
          · intro w hSw
            try dsimp only at hSw
            go_simp
            try with_reducible rfl
          simp only [Act.put, List.setIfInBounds_toArray, List.set_cons_zero, List.set_cons_succ]
          refine wpAnyH_take (i := 4) (oi := ⟨some 21, _, _, _, _, _⟩) (v := ?_) rfl (by kernel_rfl) (by kernel_rfl) (by kernel_rfl) (fun _ _ _ h => h) (Or.inl ⟨by rfl, ?_⟩) (by assumption) ?_
          rotate_left
          · intro w hSw
            try dsimp only at hSw
            go_simp
            try with_reducible rfl
          simp only [Act.put, List.setIfInBounds_toArray, List.set_cons_zero, List.set_cons_succ]
          refine wpAnyH_take (i := 5) (oi := ⟨some 22, _, _, _, _, _⟩) (v := ?_) rfl (by kernel_rfl) (by kernel_rfl) (by kernel_rfl) (fun _ _ _ h => h) (Or.inl ⟨by rfl, ?_⟩) (by assumption) ?_
          rotate_left
          · intro w hSw
            try dsimp only at hSw
            go_simp
            try with_reducible rfl
          simp only [Act.put, List.setIfInBounds_toArray, List.set_cons_zero, List.set_cons_succ]
          refine wpAnyH_take (i := 6) (oi := ⟨some 23, _, _, _, _, _⟩) (v := ?_) rfl (by kernel_rfl) (by kernel_rfl) (by kernel_rfl) (fun _ _ _ h => h) (Or.inl ⟨by rfl, ?_⟩) (by assumption) ?_
          rotate_left
          · intro w hSw
            try dsimp only at hSw
            go_simp
            try with_reducible rfl
          simp only [Act.put, List.setIfInBounds_toArray, List.set_cons_zero, List.set_cons_succ]
          refine wpAnyH_take (i := 7) (oi := ⟨some 24, _, _, _, _, _⟩) (v := ?_) rfl (by kernel_rfl) (by kernel_rfl) (by kernel_rfl) (fun _ _ _ h => h) (Or.inl ⟨by rfl, ?_⟩) (by assumption) ?_
          rotate_left
          · intro w hSw
            try dsimp only at hSw
            go_simp
            try with_reducible rfl
          simp only [Act.put, List.setIfInBounds_toArray, List.set_cons_zero, List.set_cons_succ]
          refine wpAnyH_take (i := 8) (oi := ⟨some 25, _, _, _, _, _⟩) (v := ?_) rfl (by kernel_rfl) (by kernel_rfl) (by kernel_rfl) (fun _ _ _ h => h) (Or.inl ⟨by rfl, ?_⟩) (by assumption) ?_
          rotate_left
          · intro w hSw
            try dsimp only at hSw
            go_simp
            try with_reducible rfl
          simp only [Act.put, List.setIfInBounds_toArray, List.set_cons_zero, List.set_cons_succ]
          have HE := hidP (hHeld.2.2)
          refine wpAnyH_done (by kernel_rfl) ?_ _
          clear hHeld
          go_wp2_with fail
          go_ret
          exact ⟨retB HPo.out.symm, HW.out.trans (HE.out.mono HW.out.size)⟩
      · have HPo : Hid (eqZ xs ys = true) := by
          rw [List.drop_of_length_le (by have := HN.out; omega), List.drop_of_length_le (by have := HM.out; omega)] at hpo
          exact hidP hpo
        clear hbel hpo
        go_wp2_with fail
        go_ret
        exact ⟨retB HPo.out.symm, HW.out⟩
  · rw [eqZ_len (by rw [← hn, ← hm]; exact hnm)]
    have g1 : ((n : Int) == (m : Int)) = false := by simp; omega
    have g2 : ((n : Int) != (m : Int)) = true := by simp; omega
    have g3 : decide ((n : Int) = (m : Int)) = false := decide_eq_false (by omega)
    clear h1 h2 hn hm
    go_enter Try.func45, Try.ntmps45
    go_wp2_with fail
    go_ret
    exact ⟨rfl, Below.refl _ _⟩

/-- comesAfter, plain. -/
def aftB (ps qs : List Int) : Bool := (decide (0 < qs.length) && idsB 0 qs) && !eqZ ps qs
set_option maxRecDepth 10000 in
set_option maxHeartbeats 1000000 in
theorem comesAfter_any (a b : Option Addr) (n ca m cb : Nat) (ps qs : List Int) (w : World) (hn : n = ps.length) (hm : m = qs.length) (h1 : RowG KI w a ps) (h2 : RowG KI w b qs) (hl : n ≤ 1048576) (hl' : m ≤ 1048576) :
    Calls Try.prog 47 #[.slice a n ca, .slice b m cb] w fun e w' => e = .returned (.bool (aftB ps qs)) ∧ Below w.heap.size w w' := by
  have H1 := hidP (idsOk_any b m cb qs w hm h2 hl')
  have H2 := hidP (equalI a b n ca m cb ps qs w hn hm h1 h2 hl hl')
  have hr : aftB ps qs = ((decide (0 < m) && idsB 0 qs) && !eqZ ps qs) := by unfold aftB; rw [hm]
  rw [hr]
  clear hr h1 h2 hn hm
  generalize idsB 0 qs = A at *
  generalize eqZ ps qs = C at *
  have hd' : decide ((0 : Int) < (m : Int)) = decide (0 < m) := decide_eq_decide.2 (by omega)
  cases hd : decide (0 < m) <;> rw [hd] at hd'
  · cases A <;> cases C
    all_goals
      go_enter Try.func47, Try.ntmps47
      go_wp2_with fail
      go_ret
      exact ⟨rfl, Below.refl _ _⟩
  · cases A
    · go_enter Try.func47, Try.ntmps47
      go_wp2_with fail
      refine H1.out.mono ?_
      rintro e w2 ⟨rfl, rfl⟩
      go_wp2_with fail
      go_ret
      exact ⟨retB (by cases C <;> rfl), Below.refl _ _⟩
    · go_enter Try.func47, Try.ntmps47
      go_wp2_with fail
      refine H1.out.mono ?_
      rintro e w2 ⟨rfl, rfl⟩
      go_wp2_with fail
      refine H2.out.mono ?_
      rintro e w3 ⟨rfl, hb3⟩
      have HB3 := hidP hb3
      clear hb3
      go_wp2_with fail
      go_ret
      exact ⟨retB (by cases C <;> rfl), HB3.out⟩

end Go.Proofs.Ytnngbeoeocbofaa
