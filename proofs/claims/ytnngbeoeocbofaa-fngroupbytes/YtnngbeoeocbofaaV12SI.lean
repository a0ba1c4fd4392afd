/-
  sameInts; the program's PutGroup at any rows; a row of right Ids rises.
-/
import Derived.Test.YtnngbeoeocbofaaV12Sm
import Derived.Test.YtnngbeoeocbofaaK12G
import Derived.Test.YtnngbeoeocbofaaV12GI
namespace Go.Proofs.Ytnngbeoeocbofaa
open Go.ChangeShapes Go.WideShapes Go.ChangeAt Go.RowKit Go.Joins Go.Deep

set_option maxRecDepth 10000 in
set_option maxHeartbeats 2000000 in
theorem sameInts_any (a b : Option Addr) (n ca m cb : Nat) (xs ys : List Int) (w : World) (hn : n = xs.length) (hm : m = ys.length) (h1 : RowG KI w a xs) (h2 : RowG KI w b ys) (hl : n ≤ 1048576) (hl' : m ≤ 1048576) :
    Calls Try.prog 16 #[.slice a n ca, .slice b m cb] w fun e w' => e = .returned (.bool (eqZ xs ys)) ∧ Below w.heap.size w w' := by
  by_cases hnm : n = m
  · subst hnm
    have HA := hidP h1
    have HB := hidP h2
    have HN := hidP hn
    have HM := hidP hm
    clear h1 h2 hn hm
    go_enter Try.func16, Try.ntmps16
    go_wp2_with fail
    go_loopw [5] (fun t5 wr => ∃ k : Nat, k ≤ n ∧ t5 = .int .i64 k ∧ eqZ xs ys = eqZ (xs.drop k) (ys.drop k) ∧ Below w.heap.size w wr) (fun t5 _ => n - (intOf t5).toNat)
    case atStart => exact ⟨0, Nat.zero_le _, rfl, rfl, Below.refl _ _⟩
    case round =>
      obtain ⟨k, hk, rfl, hpo, hbel⟩ := hrel
      have HW := hidP hbel
      by_cases hlt : k < n
      · obtain ⟨p, o, q, rfl, hp, hq, c0⟩ := rowI HA.out k (by rw [← HN.out]; exact hlt)
        obtain ⟨p', o', q', rfl, hp', hq', c1⟩ := rowI HB.out k (by rw [← HM.out]; exact hlt)
        have z0 := (hbel.cell hp).trans c0
        have y0 := (hbel.cell hp').trans c1
        have zL : p < wr.heap.size := Nat.lt_of_lt_of_le hp hbel.size
        have yL : p' < wr.heap.size := Nat.lt_of_lt_of_le hp' hbel.size
        rw [dropI hq, dropI hq'] at hpo
        have kw : IntKind.i64.wrap (k : Int) = (k : Int) := by rw [IntKind.wrap_i64]; omega
        have k0 : (0 : Int) ≤ (k : Int) := by omega
        have k1 : (k : Int) < (n : Int) := by omega
        clear c0 c1 hq hq' hbel
        by_cases he : q = q'
        · subst he
          rw [eqZ_eq] at hpo
          have HPo := hidP hpo
          clear hpo
          go_wp2_with fail
          have HSx : Hid (∀ x, Below wr.heap.size wr x → (x.cell? ⟨p, o + k, none⟩ = some (.int .i64 q) ∧ x.cell? ⟨p', o' + k, none⟩ = some (.int .i64 q) ∧ Below wr.heap.size wr x)) := hidP fun x h =>
            ⟨(h.cell zL).trans z0, (h.cell yL).trans y0, h⟩
          refine wp_region_held_drew (S := (fun x => x.cell? ⟨p, o + k, none⟩ = some (.int .i64 q) ∧ x.cell? ⟨p', o' + k, none⟩ = some (.int .i64 q) ∧ Below wr.heap.size wr x)) (by kernel_rfl) ?_ (fun hHeld => ?_)
          · try dsimp only
            exact HSx.out _ ((Below.refl _ _).drew)
          refine wpAnyH_take (i := 0) (oi := ⟨some 17, _, _, _, _, _⟩) (v := ?_) rfl (by kernel_rfl) (by kernel_rfl) (by kernel_rfl) (fun _ _ _ h => h) (Or.inl ⟨by rfl, ?_⟩) (by assumption) ?_
          rotate_left
          · intro w hSw
            try dsimp only at hSw
            go_simp
            try with_reducible rfl
          simp only [Act.put, List.setIfInBounds_toArray, List.set_cons_zero, List.set_cons_succ]
          refine wpAnyH_take (i := 1) (oi := ⟨some 18, _, _, _, _, _⟩) (v := ?_) rfl (by kernel_rfl) (by kernel_rfl) (by kernel_rfl) (fun _ _ _ h => h) (Or.inl ⟨by rfl, ?_⟩) (by assumption) ?_
          rotate_left
          · intro w hSw
            try dsimp only at hSw
            go_simp
            try with_reducible rfl
          simp only [Act.put, List.setIfInBounds_toArray, List.set_cons_zero, List.set_cons_succ]
          refine wpAnyH_take (i := 2) (oi := ⟨some 19, _, _, _, _, _⟩) (v := ?_) rfl (by kernel_rfl) (by kernel_rfl) (by kernel_rfl) (fun _ _ _ h => h) (Or.inl ⟨by rfl, ?_⟩) (by assumption) ?_
          rotate_left
          · intro w hSw
            try dsimp only at hSw
            go_simp
            try with_reducible rfl
          simp only [Act.put, List.setIfInBounds_toArray, List.set_cons_zero, List.set_cons_succ]
          refine wpAnyH_take (i := 3) (oi := ⟨some 20, _, _, _, _, _⟩) (v := ?_) rfl (by kernel_rfl) (by kernel_rfl) (by kernel_rfl) (fun _ _ _ h => h) (Or.inl ⟨by rfl, ?_⟩) (by assumption) ?_
          rotate_left
          · intro w hSw
            try dsimp only at hSw
            go_simp
            try with_reducible rfl
          simp only [Act.put, List.setIfInBounds_toArray, List.set_cons_zero, List.set_cons_succ]
          refine wpAnyH_take (i := 4) (oi := ⟨some 21, _, _, _, _, _⟩) (v := ?_) rfl (by kernel_rfl) (by kernel_rfl) (by kernel_rfl) (fun _ _ _ h => h) (Or.inl ⟨by rfl, ?_⟩) (by assumption) ?_
          rotate_left
          · intro w hSw
            try dsimp only at hSw
            go_simp
            try with_reducible rfl
          simp only [Act.put, List.setIfInBounds_toArray, List.set_cons_zero, List.set_cons_succ]
          refine wpAnyH_take (i := 5) (oi := ⟨some 22, _, _, _, _, _⟩) (v := ?_) rfl (by kernel_rfl) (by kernel_rfl) (by kernel_rfl) (fun _ _ _ h => h) (Or.inl ⟨by rfl, ?_⟩) (by assumption) ?_
          rotate_left
          · intro w hSw
            try dsimp only at hSw
            go_simp
            try with_reducible rfl
          simp only [Act.put, List.setIfInBounds_toArray, List.set_cons_zero, List.set_cons_succ]
          refine wpAnyH_take (i := 6) (oi := ⟨some 23, _, _, _, _, _⟩) (v := ?_) rfl (by kernel_rfl) (by kernel_rfl) (by kernel_rfl) (fun _ _ _ h => h) (Or.inl ⟨by rfl, ?_⟩) (by assumption) ?_
          rotate_left
          · intro w hSw
            try dsimp only at hSw
            go_simp
            try with_reducible rfl
          simp only [Act.put, List.setIfInBounds_toArray, List.set_cons_zero, List.set_cons_succ]
          refine wpAnyH_take (i := 7) (oi := ⟨some 24, _, _, _, _, _⟩) (v := ?_) rfl (by kernel_rfl) (by kernel_rfl) (by kernel_rfl) (fun _ _ _ h => h) (Or.inl ⟨by rfl, ?_⟩) (by assumption) ?_
          rotate_left
          · intro w hSw
            try dsimp only at hSw
            go_simp
            try with_reducible rfl
          simp only [Act.put, List.setIfInBounds_toArray, List.set_cons_zero, List.set_cons_succ]
          refine wpAnyH_take (i := 8) (oi := ⟨some 25, _, _, _, _, _⟩) (v := ?_) rfl (by kernel_rfl) (by kernel_rfl) (by kernel_rfl) (fun _ _ _ h => h) (Or.inl ⟨by rfl, ?_⟩) (by assumption) ?_
          rotate_left
          · intro w hSw
            try dsimp only at hSw
            go_simp
            try with_reducible rfl
          simp only [Act.put, List.setIfInBounds_toArray, List.set_cons_zero, List.set_cons_succ]
          have HE := hidP (hHeld.2.2)
          refine wpAnyH_done (by kernel_rfl) ?_ _
          clear hHeld
          go_wp2_with fail
          go_roundw
          case rel => exact ⟨k + 1, by omega, by go_num, HPo.out, HW.out.trans (HE.out.mono HW.out.size)⟩
          case measure => simp [intOf]; omega
        · rw [eqZ_ne he] at hpo
          have HPo := hidP hpo
          have g1 : (q == q') = false := by simp [he]
          have g2 : (q != q') = true := by simp [he]
          have g3 : decide (q = q') = false := decide_eq_false he
          clear hpo
          go_wp2_with fail
          have HSx : Hid (∀ x, Below wr.heap.size wr x → (x.cell? ⟨p, o + k, none⟩ = some (.int .i64 q) ∧ x.cell? ⟨p', o' + k, none⟩ = some (.int .i64 q') ∧ Below wr.heap.size wr x)) := hidP fun x h =>
            ⟨(h.cell zL).trans z0, (h.cell yL).trans y0, h⟩
          refine wp_region_held_drew (S := (fun x => x.cell? ⟨p, o + k, none⟩ = some (.int .i64 q) ∧ x.cell? ⟨p', o' + k, none⟩ = some (.int .i64 q') ∧ Below wr.heap.size wr x)) (by kernel_rfl) ?_ (fun hHeld => ?_)
          · try dsimp only
            exact HSx.out _ ((Below.refl _ _).drew)
          refine wpAnyH_take (i := 0) (oi := ⟨some 17, _, _, _, _, _⟩) (v := ?_) rfl (by kernel_rfl) (by kernel_rfl) (by kernel_rfl) (fun _ _ _ h => h) (Or.inl ⟨by rfl, ?_⟩) (by assumption) ?_
          rotate_left
          · intro w hSw
            try dsimp only at hSw
            go_simp
            try with_reducible rfl
          simp only [Act.put, List.setIfInBounds_toArray, List.set_cons_zero, List.set_cons_succ]
          refine wpAnyH_take (i := 1) (oi := ⟨some 18, _, _, _, _, _⟩) (v := ?_) rfl (by kernel_rfl) (by kernel_rfl) (by kernel_rfl) (fun _ _ _ h => h) (Or.inl ⟨by rfl, ?_⟩) (by assumption) ?_
          rotate_left
          · intro w hSw
            try dsimp only at hSw
            go_simp
            try with_reducible rfl
          simp only [Act.put, List.setIfInBounds_toArray, List.set_cons_zero, List.set_cons_succ]
          refine wpAnyH_take (i := 2) (oi := ⟨some 19, _, _, _, _, _⟩) (v := ?_) rfl (by kernel_rfl) (by kernel_rfl) (by kernel_rfl) (fun _ _ _ h => h) (Or.inl ⟨by rfl, ?_⟩) (by assumption) ?_
          rotate_left
          · intro w hSw
            try dsimp only at hSw
            go_simp
            try with_reducible rfl
          simp only [Act.put, List.setIfInBounds_toArray, List.set_cons_zero, List.set_cons_succ]
          refine wpAnyH_take (i := 3) (oi := ⟨some 20, _, _, _, _, _⟩) (v := ?_) rfl (by kernel_rfl) (by kernel_rfl) (by kernel_rfl) (fun _ _ _ h => h) (Or.inl ⟨by rfl, ?_⟩) (by assumption) ?_
          rotate_left
          · intro w hSw
            try dsimp only at hSw
            go_simp
            try with_reducible rfl
          simp only [Act.put, List.setIfInBounds_toArray, List.set_cons_zero, List.set_cons_succ]
          refine wpAnyH_take (i := 4) (oi := ⟨some 21, _, _, _, _, _⟩) (v := ?_) rfl (by kernel_rfl) (by kernel_rfl) (by kernel_rfl) (fun _ _ _ h => h) (Or.inl ⟨by rfl, ?_⟩) (by assumption) ?_
          rotate_left
          · intro w hSw
            try dsimp only at hSw
            go_simp
            try with_reducible rfl
          simp only [Act.put, List.setIfInBounds_toArray, List.set_cons_zero, List.set_cons_succ]
          refine wpAnyH_take (i := 5) (oi := ⟨some 22, _, _, _, _, _⟩) (v := ?_) rfl (by kernel_rfl) (by kernel_rfl) (by kernel_rfl) (fun _ _ _ h => h) (Or.inl ⟨by rfl, ?_⟩) (by assumption) ?_
          rotate_left
          · intro w hSw
            try dsimp only at hSw
            go_simp
            try with_reducible rfl
          simp only [Act.put, List.setIfInBounds_toArray, List.set_cons_zero, List.set_cons_succ]
          refine wpAnyH_take (i := 6) (oi := ⟨some 23, _, _, _, _, _⟩) (v := ?_) rfl (by kernel_rfl) (by kernel_rfl) (by kernel_rfl) (fun _ _ _ h => h) (Or.inl ⟨by rfl, ?_⟩) (by assumption) ?_
          rotate_left
          · intro w hSw
            try dsimp only at hSw
            go_simp
            try with_reducible rfl
          simp only [Act.put, List.setIfInBounds_toArray, List.set_cons_zero, List.set_cons_succ]
          refine wpAnyH_take (i := 7) (oi := ⟨some 24, _, _, _, _, _⟩) (v := ?_) rfl (by kernel_rfl) (by kernel_rfl) (by kernel_rfl) (fun _ _ _ h => h) (Or.inl ⟨by rfl, ?_⟩) (by assumption) ?_
          rotate_left
          · intro w hSw
            try dsimp only at hSw
            go_simp
            try with_reducible rfl
          simp only [Act.put, List.setIfInBounds_toArray, List.set_cons_zero, List.set_cons_succ]
          refine wpAnyH_take (i := 8) (oi := ⟨some 25, _, _, _, _, _⟩) (v := ?_) rfl (by kernel_rfl) (by kernel_rfl) (by kernel_rfl) (fun _ _ _ h => h) (Or.inl ⟨by rfl, ?_⟩) (by assumption) ?_
          rotate_left
          · intro w hSw
            try dsimp only at hSw
            go_simp
            try with_reducible rfl
          simp only [Act.put, List.setIfInBounds_toArray, List.set_cons_zero, List.set_cons_succ]
          have HE := hidP (hHeld.2.2)
          refine wpAnyH_done (by kernel_rfl) ?_ _
          clear hHeld
          go_wp2_with fail
          go_ret
          exact ⟨retB HPo.out.symm, HW.out.trans (HE.out.mono HW.out.size)⟩
      · have HPo : Hid (eqZ xs ys = true) := by
          rw [List.drop_of_length_le (by have := HN.out; omega), List.drop_of_length_le (by have := HM.out; omega)] at hpo
          exact hidP hpo
        clear hbel hpo
        go_wp2_with fail
        go_ret
        exact ⟨retB HPo.out.symm, HW.out⟩
  · rw [eqZ_len (by rw [← hn, ← hm]; exact hnm)]
    have g1 : ((n : Int) == (m : Int)) = false := by simp; omega
    have g2 : ((n : Int) != (m : Int)) = true := by simp; omega
    have g3 : decide ((n : Int) = (m : Int)) = false := decide_eq_false (by omega)
    clear h1 h2 hn hm
    go_enter Try.func16, Try.ntmps16
    go_wp2_with fail
    go_ret
    exact ⟨rfl, Below.refl _ _⟩

theorem ids_rise : ∀ (M : List Int) (l : Int) (j : Nat) (r q : Int), idsB l M = true → M[j]? = some r → M[j + 1]? = some q → r < q
  | [], _, _, _, _, _, h, _ => by simp at h
  | [x], _, 0, _, _, _, _, h => by simp at h
  | [x], _, j + 1, _, _, _, h, _ => by simp at h
  | x :: y :: t, l, 0, r, q, h, h1, h2 => by
      simp at h1 h2
      subst h1 h2
      unfold idsB idsB at h
      simp only [Bool.and_eq_true, decide_eq_true_eq] at h
      exact h.2.1.1
  | x :: y :: t, l, j + 1, r, q, h, h1, h2 => by
      unfold idsB at h
      simp only [Bool.and_eq_true, decide_eq_true_eq] at h
      exact ids_rise (y :: t) x j r q h.2 (by simpa using h1) (by simpa using h2)

set_option maxRecDepth 10000 in
set_option maxHeartbeats 2000000 in
theorem iPgA_no (ap : Option Addr) (np cp : Nat) (ab : Option Addr) (nb cb : Nat) (ps bs : List Int) (w : World) (hnp : np = ps.length) (hnb : nb = bs.length) (hP : RowG KI w ap ps) (hK : RowG KI w ab bs) (hl : np ≤ 1048576) (hl' : nb ≤ 1048576) (hr : grB ps bs = false) :
    Calls Try.prog 11 #[.agg #[.slice ap np cp, .slice ab nb cb]] w fun e w' => ∃ a' c', e = .returned (.slice a' 0 c') ∧ OwnG KBy 5 w' w.heap.size (.slice a' 0 c') [] ∧ Below w.heap.size w w' := by
  have HIm := hidP (fun W h9 => iGroupOk_any ap np cp ab nb cb ps bs W hnp hnb (hP.later h9) (hK.later h9) hl hl')
  rw [hr] at HIm
  clear hP hK hnp hnb hr
  go_enter Try.func11, Try.ntmps11
  go_wp2_with fail
  obtain ⟨bk0_W1, bk1_W1⟩ := box2D w 26 (.slice ap np cp) (.slice ab nb cb)
  have bkF_W1 : ∀ o, (w.alloc (.cells #[.slice ap np cp, .slice ab nb cb] 26)).frozen? ⟨w.heap.size, o, none⟩ = false := fun o => by simp [go_sem]
  have bkL_W1 : w.heap.size < (w.alloc (.cells #[.slice ap np cp, .slice ab nb cb] 26)).heap.size := by simp
  have ab_W1 := alloc_below w (.cells #[.slice ap np cp, .slice ab nb cb] 26)
  have as_W1 : Hid ((w.alloc (.cells #[.slice ap np cp, .slice ab nb cb] 26)).heap.size = w.heap.size + 1) := hidP (by simp)
  generalize w.alloc (.cells #[.slice ap np cp, .slice ab nb cb] 26) = W1 at *
  have acc_W1 := hidP (ab_W1)
  have sz_W1 : Hid (w.heap.size ≤ W1.heap.size) := hidP ab_W1.size
  clear ab_W1 
  refine (HIm.out _ acc_W1.out).mono ?_
  rintro e w3 ⟨rfl, hb3⟩
  have bk0_w3 := (hb3.cell bkL_W1).trans bk0_W1
  have bk1_w3 := (hb3.cell bkL_W1).trans bk1_W1
  have bkF_w3 : ∀ o, w3.frozen? ⟨w.heap.size, o, none⟩ = false := fun o => (hb3.frozen bkL_W1).trans (bkF_W1 o)
  have bkL_w3 : w.heap.size < w3.heap.size := Nat.lt_of_lt_of_le bkL_W1 hb3.size
  have acc_w3 := hidP (acc_W1.out.trans (hb3.mono acc_W1.out.size))
  have sz_w3 : Hid (W1.heap.size ≤ w3.heap.size) := hidP hb3.size
  clear hb3 bk0_W1 bk1_W1 bkF_W1 bkL_W1 acc_W1
  go_wp2_with fail
  go_ret
  exact ⟨_, _, rfl, own_zeroG KBy w3 _ 5 (by have := as_W1.out; have := sz_W1.out; have := sz_w3.out; omega), acc_w3.out.alloc acc_w3.out.size _⟩

set_option maxRecDepth 10000 in
set_option maxHeartbeats 2000000 in
theorem iPgA_yes (ap : Option Addr) (np cp : Nat) (ab : Option Addr) (nb cb : Nat) (ps bs : List Int) (w : World) (hnp : np = ps.length) (hnb : nb = bs.length) (hP : RowG KI w ap ps) (hK : RowG KI w ab bs) (hl : np ≤ 1048576) (hl' : nb ≤ 1048576) (hr : grB ps bs = true) :
    Calls Try.prog 11 #[.agg #[.slice ap np cp, .slice ab nb cb]] w fun e w' => ∃ g, e = .returned (.slice (some ⟨g, 0, none⟩) 2 2) ∧ OwnG KBy 5 w' w.heap.size (.slice (some ⟨g, 0, none⟩) 2 2) [byI 0 ps, byI 0 bs] ∧ Below w.heap.size w w' := by
  have hr' := hr
  unfold grB at hr'
  simp only [Bool.and_eq_true] at hr'
  have hq1 := ids_in ps 0 (Int.le_refl _) hr'.1.1
  have hq2 := ids_in bs 0 (Int.le_refl _) hr'.1.2
  have HIm := hidP (fun W h9 => iGroupOk_any ap np cp ab nb cb ps bs W hnp hnb (hP.later h9) (hK.later h9) hl hl')
  rw [hr] at HIm
  have H1 := hidP (fun W h9 => byteOfIds_any ap np cp ps W hnp (hP.later h9) hl hq1)
  have H2 := hidP (fun W h9 => byteOfIds_any ab nb cb bs W hnb (hK.later h9) hl' hq2)
  generalize byI 0 ps = x1 at *
  generalize byI 0 bs = x2 at *
  clear hP hK hnp hnb hr hr' hq1 hq2
  go_enter Try.func11, Try.ntmps11
  go_wp2_with fail
  obtain ⟨bk0_W1, bk1_W1⟩ := box2D w 26 (.slice ap np cp) (.slice ab nb cb)
  have bkF_W1 : ∀ o, (w.alloc (.cells #[.slice ap np cp, .slice ab nb cb] 26)).frozen? ⟨w.heap.size, o, none⟩ = false := fun o => by simp [go_sem]
  have bkL_W1 : w.heap.size < (w.alloc (.cells #[.slice ap np cp, .slice ab nb cb] 26)).heap.size := by simp
  have ab_W1 := alloc_below w (.cells #[.slice ap np cp, .slice ab nb cb] 26)
  have as_W1 : Hid ((w.alloc (.cells #[.slice ap np cp, .slice ab nb cb] 26)).heap.size = w.heap.size + 1) := hidP (by simp)
  generalize w.alloc (.cells #[.slice ap np cp, .slice ab nb cb] 26) = W1 at *
  have acc_W1 := hidP (ab_W1)
  have sz_W1 : Hid (w.heap.size ≤ W1.heap.size) := hidP ab_W1.size
  clear ab_W1 
  refine (HIm.out _ acc_W1.out).mono ?_
  rintro e w3 ⟨rfl, hb3⟩
  have bk0_w3 := (hb3.cell bkL_W1).trans bk0_W1
  have bk1_w3 := (hb3.cell bkL_W1).trans bk1_W1
  have bkF_w3 : ∀ o, w3.frozen? ⟨w.heap.size, o, none⟩ = false := fun o => (hb3.frozen bkL_W1).trans (bkF_W1 o)
  have bkL_w3 : w.heap.size < w3.heap.size := Nat.lt_of_lt_of_le bkL_W1 hb3.size
  have acc_w3 := hidP (acc_W1.out.trans (hb3.mono acc_W1.out.size))
  have sz_w3 : Hid (W1.heap.size ≤ w3.heap.size) := hidP hb3.size
  clear hb3 bk0_W1 bk1_W1 bkF_W1 bkL_W1 acc_W1
  go_wp2_with fail
  have HSx : Hid (∀ x, Below w3.heap.size w3 x → (x.cell? ⟨w.heap.size, 0, none⟩ = some (.slice ap np cp) ∧ x.cell? ⟨w.heap.size, 1, none⟩ = some (.slice ab nb cb) ∧ Below w3.heap.size w3 x)) := hidP fun x h =>
    ⟨(h.cell bkL_w3).trans bk0_w3, (h.cell bkL_w3).trans bk1_w3, h⟩
  refine wp_region_held_drew (S := (fun x => x.cell? ⟨w.heap.size, 0, none⟩ = some (.slice ap np cp) ∧ x.cell? ⟨w.heap.size, 1, none⟩ = some (.slice ab nb cb) ∧ Below w3.heap.size w3 x)) (by kernel_rfl) ?_ (fun hHeld => ?_)
  · try dsimp only
    exact HSx.out _ ((Below.refl _ _).drew)
  refine wpAnyH_take (i := 0) (oi := ⟨some 7, _, _, _, _, _⟩) (v := ?_) rfl (by kernel_rfl) (by kernel_rfl) (by kernel_rfl) (fun _ _ _ h => h) (Or.inl ⟨by rfl, ?_⟩) (by assumption) ?_
  rotate_left
  · intro w hSw
    try dsimp only at hSw
    go_simp
    try with_reducible rfl
  simp only [Act.put, List.setIfInBounds_toArray, List.set_cons_zero, List.set_cons_succ]
  refine wpAnyH_take (i := 1) (oi := ⟨some 8, _, _, _, _, _⟩) (v := ?_) rfl (by kernel_rfl) (by kernel_rfl) (by kernel_rfl) (fun _ _ _ h => h) (Or.inl ⟨by rfl, ?_⟩) (by assumption) ?_
  rotate_left
  · intro w hSw
    try dsimp only at hSw
    go_simp
    try with_reducible rfl
  simp only [Act.put, List.setIfInBounds_toArray, List.set_cons_zero, List.set_cons_succ]
  refine wpAnyH_take (i := 3) (oi := ⟨some 10, _, _, _, _, _⟩) (v := ?_) rfl (by kernel_rfl) (by kernel_rfl) (by kernel_rfl) (fun _ _ _ h => h) (Or.inl ⟨by rfl, ?_⟩) (by assumption) ?_
  rotate_left
  · intro w hSw
    try dsimp only at hSw
    go_simp
    try with_reducible rfl
  simp only [Act.put, List.setIfInBounds_toArray, List.set_cons_zero, List.set_cons_succ]
  refine wpAnyH_take (i := 4) (oi := ⟨some 11, _, _, _, _, _⟩) (v := ?_) rfl (by kernel_rfl) (by kernel_rfl) (by kernel_rfl) (fun _ _ _ h => h) (Or.inl ⟨by rfl, ?_⟩) (by assumption) ?_
  rotate_left
  · intro w hSw
    try dsimp only at hSw
    go_simp
    try with_reducible rfl
  simp only [Act.put, List.setIfInBounds_toArray, List.set_cons_zero, List.set_cons_succ]
  refine wpAnyH_ready (rs := [2]) (by kernel_rfl) (by simp) ?_
  refine AllReadyH.cons rfl (fun K hK => ?_) AllReadyH.nil
  go_simp
  go_wp2_with (first | (go_at_call 37; refine (H1.out _ (acc_w3.out.trans ((hHeld.2.2).mono acc_w3.out.size))).mono ?_; rintro e w4 ⟨rfl, hb4⟩; have b4 := (hHeld.2.2).trans (hb4.mono (hHeld.2.2).size)))
  refine hK.out _ _ ?_ (fun hHeld => ?_)
  · try dsimp only
    exact HSx.out _ b4
  clear hK K
  refine wpAnyH_ready (rs := [5]) (by kernel_rfl) (by simp) ?_
  refine AllReadyH.cons rfl (fun K hK => ?_) AllReadyH.nil
  go_simp
  go_wp2_with (first | (go_at_call 37; refine (H2.out _ (acc_w3.out.trans ((hHeld.2.2).mono acc_w3.out.size))).mono ?_; rintro e w5 ⟨rfl, hb5⟩; have b5 := (hHeld.2.2).trans (hb5.mono (hHeld.2.2).size)))
  refine hK.out _ _ ?_ (fun hHeld => ?_)
  · try dsimp only
    exact HSx.out _ b5
  clear hK K
  refine wpAnyH_ready (rs := [6]) (by kernel_rfl) (by simp) ?_
  refine AllReadyH.cons rfl (fun K hK => ?_) AllReadyH.nil
  go_simp
  refine hK.out _ _ ?_ (fun hHeld => ?_)
  · try dsimp only
    exact HSx.out _ ((hHeld.2.2).alloc (hHeld.2.2).size _)
  clear hK K
  refine wpAnyH_take (i := 7) (oi := ⟨some 2, _, _, _, _, _⟩) (v := ?_) rfl (by kernel_rfl) (by kernel_rfl) (by kernel_rfl) (fun _ _ _ h => h) (Or.inl ⟨by rfl, ?_⟩) (by assumption) ?_
  rotate_left
  · intro w hSw
    try dsimp only at hSw
    go_simp
    try with_reducible rfl
  simp only [Act.put, List.setIfInBounds_toArray, List.set_cons_zero, List.set_cons_succ]
  have HE := hidP (hHeld.2.2)
  refine wpAnyH_done (by kernel_rfl) ?_ _
  clear hHeld
  go_wp2_with fail
  go_ret
  have hz5 : w3.heap.size ≤ w5.heap.size := b5.size
  exact ⟨w5.heap.size, rfl, own_two w5 _ _ _ (by have := as_W1.out; have := sz_W1.out; have := sz_w3.out; omega), acc_w3.out.trans (HE.out.mono acc_w3.out.size)⟩

end Go.Proofs.Ytnngbeoeocbofaa
