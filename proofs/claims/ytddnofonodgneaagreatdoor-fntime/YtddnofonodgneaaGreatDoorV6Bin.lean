/-
  The library's BinarySearchFunc at leases by their addresses, and the program's placeOfLease.
-/
import Derived.Test.YtddnofonodgneaaGreatDoorV6Lse
import Derived.Deep.RegionWith
import Derived.Deep.RegionHeld3
namespace Go.Proofs.YtddnofonodgneaaGreatDoor
open Go.RowKit

/-- Ascending, and right. -/
def SrtL (ls : List Ls) : Prop := (∀ (i j : Nat) (q r : Ls), i < j → ls[i]? = some q → ls[j]? = some r → q.a.key < r.a.key) ∧ ∀ q ∈ ls, q.a.ok = true
def fndL (ls : List Ls) (ad : Ad) (i : Nat) : Bool := match ls[i]? with | some q => q.a.key == ad.key | none => false
theorem cmpW_lt (a b : Nat) : decide (cmpW (a : Int) (b : Int) < 0) = decide (a < b) := by
  unfold cmpW
  by_cases h : (a : Int) < b
  · rw [if_pos h, decide_eq_true (show a < b by omega)]; rfl
  · rw [if_neg h, decide_eq_false (show ¬ a < b by omega)]
    split <;> rfl
theorem cmpW_eq (a b : Nat) : (cmpW (a : Int) (b : Int) == 0) = (a == b) := by
  unfold cmpW
  by_cases h : (a : Int) < b
  · rw [if_pos h]
    have : ¬ a = b := by omega
    simp [this]
  · rw [if_neg h]
    by_cases h2 : (b : Int) < a
    · rw [if_pos h2]
      have : ¬ a = b := by omega
      simp [this]
    · rw [if_neg h2]
      have : a = b := by omega
      simp [this]
theorem srt_of (T N : Int) : ∀ (ls : List Ls) (r : Option Ad), leasesF T N r ls = true → SrtL ls ∧ ∀ a, r = some a → ∀ q ∈ ls, a.key < q.a.key
  | [], r, _ => ⟨⟨fun i j q r' _ h => by simp at h, fun q h => by cases h⟩, fun a _ q h => by cases h⟩
  | x :: t, r, h => by
      unfold leasesF at h
      rw [Bool.and_eq_true, Bool.and_eq_true] at h
      obtain ⟨⟨h1, h2⟩, h3⟩ := h
      obtain ⟨⟨s1, s2⟩, s3⟩ := srt_of T N t (some x.a) h3
      have s4 := s3 x.a rfl
      refine ⟨⟨fun i j q r' hij hi hj => ?_, fun q hq => ?_⟩, fun a ha q hq => ?_⟩
      · cases j with
        | zero => omega
        | succ j =>
          rw [List.getElem?_cons_succ] at hj
          cases i with
          | zero => rw [List.getElem?_cons_zero] at hi; cases hi; exact s4 r' (List.mem_of_getElem? hj)
          | succ i => rw [List.getElem?_cons_succ] at hi; exact s1 i j q r' (by omega) hi hj
      · rcases List.mem_cons.1 hq with e | e
        · subst e; exact okLs_ok h1
        · exact s2 q e
      · subst ha
        have h2' : a.key < x.a.key := by simpa [ascA] using h2
        rcases List.mem_cons.1 hq with e | e
        · subst e; exact h2'
        · have := s4 q e; omega
theorem srt_bk {ls : List Ls} {T N : Int} (h : bkB ls T N = true) : SrtL ls ∧ ls.length ≤ 80 := by
  unfold bkB at h
  simp only [Bool.and_eq_true, decide_eq_true_eq] at h
  exact ⟨(srt_of T N ls none h.2.1).1, h.1.1⟩

set_option maxHeartbeats 1000000 in
theorem cmpLs_any (q : Ls) (ad : Ad) (hq : q.a.ok = true) (ha : ad.ok = true) (w : World) :
    Calls Tryz.prog 63 #[.agg #[.bool q.a.s, .int .i64 q.a.H.toInt, .int .i64 q.a.L.toInt, .string q.t, .int .i64 q.k, .int .i64 q.u], .agg #[.bool ad.s, .int .i64 ad.H.toInt, .int .i64 ad.L.toInt]] w fun e w' => e = .returned (.int .i64 (cmpW (keyN q.a.s q.a.H q.a.L : Int) (keyN ad.s ad.H ad.L : Int))) ∧ Below w.heap.size w w' := by
  have HC := hidP ((cmp_ok q.a.s q.a.H q.a.L ad.s ad.H ad.L hq ha).2)
  generalize cmpW (keyN q.a.s q.a.H q.a.L : Int) (keyN ad.s ad.H ad.L : Int) = z at *
  go_enter Tryz.func63, Tryz.ntmps63
  go_wp2_with fail
  refine (HC.out _).mono ?_
  rintro e w2 ⟨rfl, hb2⟩
  have HB2 := hidP hb2
  clear hb2
  go_wp2_with fail
  go_ret
  exact ⟨rfl, ((alloc_below w _).alloc (by simp) _).trans (HB2.out.mono (by simp; omega))⟩

set_option maxRecDepth 10000 in
set_option maxHeartbeats 2000000 in
theorem binLs_any (a : Option Addr) (n c : Nat) (ls : List Ls) (ad : Ad) (w : World) (hn : n = ls.length) (hB : RowG KLs w a ls) (hl : n ≤ 1048576) (hs : SrtL ls) (hat : ad.ok = true) :
    Calls Tryz.prog 62 #[.slice a n c, .agg #[.bool ad.s, .int .i64 ad.H.toInt, .int .i64 ad.L.toInt], .func (.func 63) #[] #[]] w fun e w' => (∃ i : Nat, i ≤ n ∧ (∀ (j : Nat) (q : Ls), j < i → ls[j]? = some q → q.a.key < ad.key) ∧ (∀ (j : Nat) (q : Ls), i ≤ j → ls[j]? = some q → ad.key ≤ q.a.key) ∧ e = .returned (.tuple #[.int .i64 i, .bool (fndL ls ad i)])) ∧ Below w.heap.size w w' := by
  have HB := hidP (fun W h => hB.later (w' := W) h)
  have HN := hidP hn
  have HS := hidP hs
  have HAt := hidP hat
  clear hB hn hs hat
  go_enter Tryz.func62, Tryz.ntmps62
  go_wp2_with fail
  obtain ⟨b0, b1, b2⟩ := box3B w 28 (.bool ad.s) (.int .i64 ad.H.toInt) (.int .i64 ad.L.toInt)
  have bB := alloc_below w (.cells #[.bool ad.s, .int .i64 ad.H.toInt, .int .i64 ad.L.toInt] 28)
  have bL := alloc_lt w (.cells #[.bool ad.s, .int .i64 ad.H.toInt, .int .i64 ad.L.toInt] 28)
  have bS : (w.alloc (.cells #[.bool ad.s, .int .i64 ad.H.toInt, .int .i64 ad.L.toInt] 28)).heap.size = w.heap.size + 1 := by simp
  generalize w.alloc (.cells #[.bool ad.s, .int .i64 ad.H.toInt, .int .i64 ad.L.toInt] 28) = W1 at *
  have HR := hidP (HB.out _ bB)
  have HU := hidP bB
  clear bB HB bS
  go_loopw [9, 10, 11] (fun t9 t10 _ wr => ∃ lo hi : Nat, t9 = .int .i64 lo ∧ t10 = .int .i64 hi ∧ lo ≤ hi ∧ hi ≤ n ∧ (∀ (j : Nat) (q : Ls), j < lo → ls[j]? = some q → q.a.key < ad.key) ∧ (∀ (j : Nat) (q : Ls), hi ≤ j → ls[j]? = some q → ad.key ≤ q.a.key) ∧ Below W1.heap.size W1 wr) (fun t9 t10 _ _ => (intOf t10).toNat - (intOf t9).toNat)
  case atStart => exact ⟨0, n, rfl, rfl, Nat.zero_le _, Nat.le_refl _, (fun j q h => by omega), (fun j q h e => by rw [List.getElem?_eq_none (by have := HN.out; omega)] at e; cases e), Below.refl _ _⟩
  case round =>
    obtain ⟨lo, hi, rfl, rfl, hlh, hhn, hlow, hhig, hbel⟩ := hrel
    have B0 := (hbel.cell bL).trans b0
    have B1 := (hbel.cell bL).trans b1
    have B2 := (hbel.cell bL).trans b2
    have BL : w.heap.size < wr.heap.size := Nat.lt_of_lt_of_le bL hbel.size
    have HBel := hidP hbel
    have HLH := hidP (And.intro hlow hhig)
    clear hlow hhig b0 b1 b2
    by_cases hlt : lo < hi
    · obtain ⟨z, hz⟩ : ∃ z : Int, (lo : Int) + (hi : Int) = z := ⟨_, rfl⟩
      obtain ⟨h, hh⟩ : ∃ h : Int, z / 2 = h := ⟨_, rfl⟩
      have hz0 : 0 ≤ z := by omega
      have hz9 : z ≤ 2000000000 := by omega
      have hh0 : 0 ≤ h := by omega
      have hhn' : h < (n : Int) := by omega
      have hh9 : h ≤ 1000000000 := by omega
      have HZ := hidP (And.intro hz hh)
      obtain ⟨p, o, q, rfl, hp, hq, c0, c1, c2, c3, c4, c5⟩ := rowLs HR.out h.toNat (by have := HN.out; omega)
      have d0 := (hbel.cell hp).trans c0
      have d1 := (hbel.cell hp).trans c1
      have d2 := (hbel.cell hp).trans c2
      have d3 := (hbel.cell hp).trans c3
      have d4 := (hbel.cell hp).trans c4
      have d5 := (hbel.cell hp).trans c5
      have hpw : p < wr.heap.size := Nat.lt_of_lt_of_le hp hbel.size
      have hmul : h * 6 = ((h.toNat * 6 : Nat) : Int) := by omega
      have HK := hidP (cmpLs_any q ad (HS.out.2 q (List.mem_of_getElem? hq)) HAt.out)
      have hlt2 : decide (cmpW (keyN q.a.s q.a.H q.a.L : Int) (keyN ad.s ad.H ad.L : Int) < 0) = decide (q.a.key < ad.key) := cmpW_lt _ _
      generalize cmpW (keyN q.a.s q.a.H q.a.L : Int) (keyN ad.s ad.H ad.L : Int) = y at *
      have HQ := hidP hq
      clear c0 c1 c2 c3 c4 c5 hq hbel
      cases hk : decide (q.a.key < ad.key)
      · rw [hk] at hlt2
        have hkey := of_decide_eq_false hk
        clear hk
        go_wp2_with fail
        have HSx : Hid (∀ x, Below wr.heap.size wr x → (x.cell? ⟨p, o + h.toNat * 6, none⟩ = some (.bool q.a.s) ∧ x.cell? ⟨p, o + h.toNat * 6 + 1, none⟩ = some (.int .i64 q.a.H.toInt) ∧ x.cell? ⟨p, o + h.toNat * 6 + 2, none⟩ = some (.int .i64 q.a.L.toInt) ∧ x.cell? ⟨p, o + h.toNat * 6 + 3, none⟩ = some (.string q.t) ∧ x.cell? ⟨p, o + h.toNat * 6 + 4, none⟩ = some (.int .i64 q.k) ∧ x.cell? ⟨p, o + h.toNat * 6 + 5, none⟩ = some (.int .i64 q.u) ∧ x.cell? ⟨w.heap.size, 0, none⟩ = some (.bool ad.s) ∧ x.cell? ⟨w.heap.size, 1, none⟩ = some (.int .i64 ad.H.toInt) ∧ x.cell? ⟨w.heap.size, 2, none⟩ = some (.int .i64 ad.L.toInt) ∧ Below wr.heap.size wr x)) := hidP fun x h =>
          ⟨(h.cell hpw).trans d0, (h.cell hpw).trans d1, (h.cell hpw).trans d2, (h.cell hpw).trans d3, (h.cell hpw).trans d4, (h.cell hpw).trans d5, (h.cell BL).trans B0, (h.cell BL).trans B1, (h.cell BL).trans B2, h⟩
        refine wp_region_held_drew (S := (fun x => x.cell? ⟨p, o + h.toNat * 6, none⟩ = some (.bool q.a.s) ∧ x.cell? ⟨p, o + h.toNat * 6 + 1, none⟩ = some (.int .i64 q.a.H.toInt) ∧ x.cell? ⟨p, o + h.toNat * 6 + 2, none⟩ = some (.int .i64 q.a.L.toInt) ∧ x.cell? ⟨p, o + h.toNat * 6 + 3, none⟩ = some (.string q.t) ∧ x.cell? ⟨p, o + h.toNat * 6 + 4, none⟩ = some (.int .i64 q.k) ∧ x.cell? ⟨p, o + h.toNat * 6 + 5, none⟩ = some (.int .i64 q.u) ∧ x.cell? ⟨w.heap.size, 0, none⟩ = some (.bool ad.s) ∧ x.cell? ⟨w.heap.size, 1, none⟩ = some (.int .i64 ad.H.toInt) ∧ x.cell? ⟨w.heap.size, 2, none⟩ = some (.int .i64 ad.L.toInt) ∧ Below wr.heap.size wr x)) (by kernel_rfl) ?_ (fun hHeld => ?_)
        · try dsimp only
          exact HSx.out _ ((Below.refl _ _).drew)
        refine wpAnyH_take (i := 0) (oi := ⟨some 24, _, _, _, _, _⟩) (v := ?_) rfl (by kernel_rfl) (by kernel_rfl) (by kernel_rfl) (fun _ _ _ h => h) (Or.inl ⟨by rfl, ?_⟩) (by assumption) ?_
        rotate_left
        · intro w hSw
          try dsimp only at hSw
          go_simp
          try with_reducible rfl
        simp only [Act.put, List.setIfInBounds_toArray, List.set_cons_zero, List.set_cons_succ]
        refine wpAnyH_take (i := 1) (oi := ⟨some 25, _, _, _, _, _⟩) (v := ?_) rfl (by kernel_rfl) (by kernel_rfl) (by kernel_rfl) (fun _ _ _ h => h) (Or.inl ⟨by rfl, ?_⟩) (by assumption) ?_
        rotate_left
        · intro w hSw
          try dsimp only at hSw
          go_simp
          try with_reducible rfl
        simp only [Act.put, List.setIfInBounds_toArray, List.set_cons_zero, List.set_cons_succ]
        refine wpAnyH_take (i := 2) (oi := ⟨some 26, _, _, _, _, _⟩) (v := ?_) rfl (by kernel_rfl) (by kernel_rfl) (by kernel_rfl) (fun _ _ _ h => h) (Or.inl ⟨by rfl, ?_⟩) (by assumption) ?_
        rotate_left
        · intro w hSw
          try dsimp only at hSw
          go_simp
          try with_reducible rfl
        simp only [Act.put, List.setIfInBounds_toArray, List.set_cons_zero, List.set_cons_succ]
        refine wpAnyH_take (i := 3) (oi := ⟨some 27, _, _, _, _, _⟩) (v := ?_) rfl (by kernel_rfl) (by kernel_rfl) (by kernel_rfl) (fun _ _ _ h => h) (Or.inl ⟨by rfl, ?_⟩) (by assumption) ?_
        rotate_left
        · intro w hSw
          try dsimp only at hSw
          go_simp
          try with_reducible rfl
        simp only [Act.put, List.setIfInBounds_toArray, List.set_cons_zero, List.set_cons_succ]
        refine wpAnyH_take (i := 4) (oi := ⟨some 28, _, _, _, _, _⟩) (v := ?_) rfl (by kernel_rfl) (by kernel_rfl) (by kernel_rfl) (fun _ _ _ h => h) (Or.inl ⟨by rfl, ?_⟩) (by assumption) ?_
        rotate_left
        · intro w hSw
          try dsimp only at hSw
          go_simp
          try with_reducible rfl
        simp only [Act.put, List.setIfInBounds_toArray, List.set_cons_zero, List.set_cons_succ]
        refine wpAnyH_take (i := 5) (oi := ⟨some 29, _, _, _, _, _⟩) (v := ?_) rfl (by kernel_rfl) (by kernel_rfl) (by kernel_rfl) (fun _ _ _ h => h) (Or.inl ⟨by rfl, ?_⟩) (by assumption) ?_
        rotate_left
        · intro w hSw
          try dsimp only at hSw
          go_simp
          try with_reducible rfl
        simp only [Act.put, List.setIfInBounds_toArray, List.set_cons_zero, List.set_cons_succ]
        refine wpAnyH_ready (rs := [6]) (by kernel_rfl) (by simp) ?_
        refine AllReadyH.cons rfl (fun K hK => ?_) AllReadyH.nil
        go_simp
        go_wp2_with (first | (go_at_call 63; refine (HK.out _).mono ?_; rintro e w2 ⟨rfl, hb2⟩; have b2 := (hHeld.2.2.2.2.2.2.2.2.2).trans (hb2.mono (hHeld.2.2.2.2.2.2.2.2.2).size)))
        refine hK.out _ _ ?_ (fun hHeld => ?_)
        · try dsimp only
          exact HSx.out _ b2
        clear hK K
        refine wpAnyH_take (i := 7) (oi := ⟨some 31, _, _, _, _, _⟩) (v := ?_) rfl (by kernel_rfl) (by kernel_rfl) (by kernel_rfl) (fun _ _ _ h => h) (Or.inl ⟨by rfl, ?_⟩) (by assumption) ?_
        rotate_left
        · intro w hSw
          try dsimp only at hSw
          go_simp
          try with_reducible rfl
        simp only [Act.put, List.setIfInBounds_toArray, List.set_cons_zero, List.set_cons_succ]
        have HE := hidP (hHeld.2.2.2.2.2.2.2.2.2)
        refine wpAnyH_done (by kernel_rfl) ?_ _
        clear hHeld
        go_wp2_with fail
        go_roundw
        case rel =>
          have hZ := HZ.out
          refine ⟨lo, h.toNat, rfl, by go_num, by omega, by omega, HLH.out.1, (fun j r hj e => ?_), HBel.out.trans (HE.out.mono HBel.out.size)⟩
          by_cases hj2 : j = h.toNat
          · subst hj2; rw [HQ.out] at e; cases e; omega
          · have := HS.out.1 h.toNat j q r (by omega) HQ.out e; omega
        case measure => have hZ := HZ.out; simp [intOf]; omega
      · rw [hk] at hlt2
        have hkey := of_decide_eq_true hk
        clear hk
        go_wp2_with fail
        have HSx : Hid (∀ x, Below wr.heap.size wr x → (x.cell? ⟨p, o + h.toNat * 6, none⟩ = some (.bool q.a.s) ∧ x.cell? ⟨p, o + h.toNat * 6 + 1, none⟩ = some (.int .i64 q.a.H.toInt) ∧ x.cell? ⟨p, o + h.toNat * 6 + 2, none⟩ = some (.int .i64 q.a.L.toInt) ∧ x.cell? ⟨p, o + h.toNat * 6 + 3, none⟩ = some (.string q.t) ∧ x.cell? ⟨p, o + h.toNat * 6 + 4, none⟩ = some (.int .i64 q.k) ∧ x.cell? ⟨p, o + h.toNat * 6 + 5, none⟩ = some (.int .i64 q.u) ∧ x.cell? ⟨w.heap.size, 0, none⟩ = some (.bool ad.s) ∧ x.cell? ⟨w.heap.size, 1, none⟩ = some (.int .i64 ad.H.toInt) ∧ x.cell? ⟨w.heap.size, 2, none⟩ = some (.int .i64 ad.L.toInt) ∧ Below wr.heap.size wr x)) := hidP fun x h =>
          ⟨(h.cell hpw).trans d0, (h.cell hpw).trans d1, (h.cell hpw).trans d2, (h.cell hpw).trans d3, (h.cell hpw).trans d4, (h.cell hpw).trans d5, (h.cell BL).trans B0, (h.cell BL).trans B1, (h.cell BL).trans B2, h⟩
        refine wp_region_held_drew (S := (fun x => x.cell? ⟨p, o + h.toNat * 6, none⟩ = some (.bool q.a.s) ∧ x.cell? ⟨p, o + h.toNat * 6 + 1, none⟩ = some (.int .i64 q.a.H.toInt) ∧ x.cell? ⟨p, o + h.toNat * 6 + 2, none⟩ = some (.int .i64 q.a.L.toInt) ∧ x.cell? ⟨p, o + h.toNat * 6 + 3, none⟩ = some (.string q.t) ∧ x.cell? ⟨p, o + h.toNat * 6 + 4, none⟩ = some (.int .i64 q.k) ∧ x.cell? ⟨p, o + h.toNat * 6 + 5, none⟩ = some (.int .i64 q.u) ∧ x.cell? ⟨w.heap.size, 0, none⟩ = some (.bool ad.s) ∧ x.cell? ⟨w.heap.size, 1, none⟩ = some (.int .i64 ad.H.toInt) ∧ x.cell? ⟨w.heap.size, 2, none⟩ = some (.int .i64 ad.L.toInt) ∧ Below wr.heap.size wr x)) (by kernel_rfl) ?_ (fun hHeld => ?_)
        · try dsimp only
          exact HSx.out _ ((Below.refl _ _).drew)
        refine wpAnyH_take (i := 0) (oi := ⟨some 24, _, _, _, _, _⟩) (v := ?_) rfl (by kernel_rfl) (by kernel_rfl) (by kernel_rfl) (fun _ _ _ h => h) (Or.inl ⟨by rfl, ?_⟩) (by assumption) ?_
        rotate_left
        · intro w hSw
          try dsimp only at hSw
          go_simp
          try with_reducible rfl
        simp only [Act.put, List.setIfInBounds_toArray, List.set_cons_zero, List.set_cons_succ]
        refine wpAnyH_take (i := 1) (oi := ⟨some 25, _, _, _, _, _⟩) (v := ?_) rfl (by kernel_rfl) (by kernel_rfl) (by kernel_rfl) (fun _ _ _ h => h) (Or.inl ⟨by rfl, ?_⟩) (by assumption) ?_
        rotate_left
        · intro w hSw
          try dsimp only at hSw
          go_simp
          try with_reducible rfl
        simp only [Act.put, List.setIfInBounds_toArray, List.set_cons_zero, List.set_cons_succ]
        refine wpAnyH_take (i := 2) (oi := ⟨some 26, _, _, _, _, _⟩) (v := ?_) rfl (by kernel_rfl) (by kernel_rfl) (by kernel_rfl) (fun _ _ _ h => h) (Or.inl ⟨by rfl, ?_⟩) (by assumption) ?_
        rotate_left
        · intro w hSw
          try dsimp only at hSw
          go_simp
          try with_reducible rfl
        simp only [Act.put, List.setIfInBounds_toArray, List.set_cons_zero, List.set_cons_succ]
        refine wpAnyH_take (i := 3) (oi := ⟨some 27, _, _, _, _, _⟩) (v := ?_) rfl (by kernel_rfl) (by kernel_rfl) (by kernel_rfl) (fun _ _ _ h => h) (Or.inl ⟨by rfl, ?_⟩) (by assumption) ?_
        rotate_left
        · intro w hSw
          try dsimp only at hSw
          go_simp
          try with_reducible rfl
        simp only [Act.put, List.setIfInBounds_toArray, List.set_cons_zero, List.set_cons_succ]
        refine wpAnyH_take (i := 4) (oi := ⟨some 28, _, _, _, _, _⟩) (v := ?_) rfl (by kernel_rfl) (by kernel_rfl) (by kernel_rfl) (fun _ _ _ h => h) (Or.inl ⟨by rfl, ?_⟩) (by assumption) ?_
        rotate_left
        · intro w hSw
          try dsimp only at hSw
          go_simp
          try with_reducible rfl
        simp only [Act.put, List.setIfInBounds_toArray, List.set_cons_zero, List.set_cons_succ]
        refine wpAnyH_take (i := 5) (oi := ⟨some 29, _, _, _, _, _⟩) (v := ?_) rfl (by kernel_rfl) (by kernel_rfl) (by kernel_rfl) (fun _ _ _ h => h) (Or.inl ⟨by rfl, ?_⟩) (by assumption) ?_
        rotate_left
        · intro w hSw
          try dsimp only at hSw
          go_simp
          try with_reducible rfl
        simp only [Act.put, List.setIfInBounds_toArray, List.set_cons_zero, List.set_cons_succ]
        refine wpAnyH_ready (rs := [6]) (by kernel_rfl) (by simp) ?_
        refine AllReadyH.cons rfl (fun K hK => ?_) AllReadyH.nil
        go_simp
        go_wp2_with (first | (go_at_call 63; refine (HK.out _).mono ?_; rintro e w2 ⟨rfl, hb2⟩; have b2 := (hHeld.2.2.2.2.2.2.2.2.2).trans (hb2.mono (hHeld.2.2.2.2.2.2.2.2.2).size)))
        refine hK.out _ _ ?_ (fun hHeld => ?_)
        · try dsimp only
          exact HSx.out _ b2
        clear hK K
        refine wpAnyH_take (i := 7) (oi := ⟨some 31, _, _, _, _, _⟩) (v := ?_) rfl (by kernel_rfl) (by kernel_rfl) (by kernel_rfl) (fun _ _ _ h => h) (Or.inl ⟨by rfl, ?_⟩) (by assumption) ?_
        rotate_left
        · intro w hSw
          try dsimp only at hSw
          go_simp
          try with_reducible rfl
        simp only [Act.put, List.setIfInBounds_toArray, List.set_cons_zero, List.set_cons_succ]
        have HE := hidP (hHeld.2.2.2.2.2.2.2.2.2)
        refine wpAnyH_done (by kernel_rfl) ?_ _
        clear hHeld
        go_wp2_with fail
        go_roundw
        case rel =>
          have hZ := HZ.out
          refine ⟨h.toNat + 1, hi, by go_num, rfl, by omega, hhn, (fun j r hj e => ?_), HLH.out.2, HBel.out.trans (HE.out.mono HBel.out.size)⟩
          by_cases hj2 : j = h.toNat
          · subst hj2; rw [HQ.out] at e; cases e; exact hkey
          · have := HS.out.1 j h.toNat r q (by omega) e HQ.out; omega
        case measure => have hZ := HZ.out; simp [intOf]; omega
    · have hle : lo = hi := by omega
      subst hle
      by_cases hln : lo < n
      · obtain ⟨p, o, q, rfl, hp, hq, c0, c1, c2, c3, c4, c5⟩ := rowLs HR.out lo (by have := HN.out; omega)
        have d0 := (hbel.cell hp).trans c0
        have d1 := (hbel.cell hp).trans c1
        have d2 := (hbel.cell hp).trans c2
        have d3 := (hbel.cell hp).trans c3
        have d4 := (hbel.cell hp).trans c4
        have d5 := (hbel.cell hp).trans c5
        have hpw : p < wr.heap.size := Nat.lt_of_lt_of_le hp hbel.size
        have g0 : decide ((lo : Int) < (n : Int)) = true := decide_eq_true (by omega)
        have g1 : decide (lo < n) = true := decide_eq_true (by omega)
        have l0 : (0 : Int) ≤ (lo : Int) := by omega
        have l1 : (lo : Int) < (n : Int) := by omega
        have HK := hidP (cmpLs_any q ad (HS.out.2 q (List.mem_of_getElem? hq)) HAt.out)
        have heq2 : (cmpW (keyN q.a.s q.a.H q.a.L : Int) (keyN ad.s ad.H ad.L : Int) == 0) = (q.a.key == ad.key) := cmpW_eq _ _
        generalize cmpW (keyN q.a.s q.a.H q.a.L : Int) (keyN ad.s ad.H ad.L : Int) = y at *
        have HF : Hid (fndL ls ad lo = (q.a.key == ad.key)) := hidP (by unfold fndL; rw [hq])
        rw [← HF.out] at heq2
        obtain ⟨fb, hfb⟩ : ∃ fb, fb = fndL ls ad lo := ⟨_, rfl⟩
        rw [← hfb] at heq2
        have HFx := hidP hfb
        clear hfb
        clear c0 c1 c2 c3 c4 c5 hq hbel HF
        go_wp2_with fail
        have HSx : Hid (∀ x, Below wr.heap.size wr x → (x.cell? ⟨p, o + lo * 6, none⟩ = some (.bool q.a.s) ∧ x.cell? ⟨p, o + lo * 6 + 1, none⟩ = some (.int .i64 q.a.H.toInt) ∧ x.cell? ⟨p, o + lo * 6 + 2, none⟩ = some (.int .i64 q.a.L.toInt) ∧ x.cell? ⟨p, o + lo * 6 + 3, none⟩ = some (.string q.t) ∧ x.cell? ⟨p, o + lo * 6 + 4, none⟩ = some (.int .i64 q.k) ∧ x.cell? ⟨p, o + lo * 6 + 5, none⟩ = some (.int .i64 q.u) ∧ x.cell? ⟨w.heap.size, 0, none⟩ = some (.bool ad.s) ∧ x.cell? ⟨w.heap.size, 1, none⟩ = some (.int .i64 ad.H.toInt) ∧ x.cell? ⟨w.heap.size, 2, none⟩ = some (.int .i64 ad.L.toInt) ∧ Below wr.heap.size wr x)) := hidP fun x h =>
          ⟨(h.cell hpw).trans d0, (h.cell hpw).trans d1, (h.cell hpw).trans d2, (h.cell hpw).trans d3, (h.cell hpw).trans d4, (h.cell hpw).trans d5, (h.cell BL).trans B0, (h.cell BL).trans B1, (h.cell BL).trans B2, h⟩
        refine wp_region_held_drew (S := (fun x => x.cell? ⟨p, o + lo * 6, none⟩ = some (.bool q.a.s) ∧ x.cell? ⟨p, o + lo * 6 + 1, none⟩ = some (.int .i64 q.a.H.toInt) ∧ x.cell? ⟨p, o + lo * 6 + 2, none⟩ = some (.int .i64 q.a.L.toInt) ∧ x.cell? ⟨p, o + lo * 6 + 3, none⟩ = some (.string q.t) ∧ x.cell? ⟨p, o + lo * 6 + 4, none⟩ = some (.int .i64 q.k) ∧ x.cell? ⟨p, o + lo * 6 + 5, none⟩ = some (.int .i64 q.u) ∧ x.cell? ⟨w.heap.size, 0, none⟩ = some (.bool ad.s) ∧ x.cell? ⟨w.heap.size, 1, none⟩ = some (.int .i64 ad.H.toInt) ∧ x.cell? ⟨w.heap.size, 2, none⟩ = some (.int .i64 ad.L.toInt) ∧ Below wr.heap.size wr x)) (by kernel_rfl) ?_ (fun hHeld => ?_)
        · try dsimp only
          exact HSx.out _ ((Below.refl _ _).drew)
        refine wpAnyH_take (i := 0) (oi := ⟨some 35, _, _, _, _, _⟩) (v := ?_) rfl (by kernel_rfl) (by kernel_rfl) (by kernel_rfl) (fun _ _ _ h => h) (Or.inl ⟨by rfl, ?_⟩) (by assumption) ?_
        rotate_left
        · intro w hSw
          try dsimp only at hSw
          go_simp
          try with_reducible rfl
        simp only [Act.put, List.setIfInBounds_toArray, List.set_cons_zero, List.set_cons_succ]
        refine wpAnyH_take (i := 1) (oi := ⟨some 36, _, _, _, _, _⟩) (v := ?_) rfl (by kernel_rfl) (by kernel_rfl) (by kernel_rfl) (fun _ _ _ h => h) (Or.inl ⟨by rfl, ?_⟩) (by assumption) ?_
        rotate_left
        · intro w hSw
          try dsimp only at hSw
          go_simp
          try with_reducible rfl
        simp only [Act.put, List.setIfInBounds_toArray, List.set_cons_zero, List.set_cons_succ]
        refine wpAnyH_take (i := 2) (oi := ⟨some 37, _, _, _, _, _⟩) (v := ?_) rfl (by kernel_rfl) (by kernel_rfl) (by kernel_rfl) (fun _ _ _ h => h) (Or.inl ⟨by rfl, ?_⟩) (by assumption) ?_
        rotate_left
        · intro w hSw
          try dsimp only at hSw
          go_simp
          try with_reducible rfl
        simp only [Act.put, List.setIfInBounds_toArray, List.set_cons_zero, List.set_cons_succ]
        refine wpAnyH_take (i := 3) (oi := ⟨some 38, _, _, _, _, _⟩) (v := ?_) rfl (by kernel_rfl) (by kernel_rfl) (by kernel_rfl) (fun _ _ _ h => h) (Or.inl ⟨by rfl, ?_⟩) (by assumption) ?_
        rotate_left
        · intro w hSw
          try dsimp only at hSw
          go_simp
          try with_reducible rfl
        simp only [Act.put, List.setIfInBounds_toArray, List.set_cons_zero, List.set_cons_succ]
        refine wpAnyH_take (i := 4) (oi := ⟨some 39, _, _, _, _, _⟩) (v := ?_) rfl (by kernel_rfl) (by kernel_rfl) (by kernel_rfl) (fun _ _ _ h => h) (Or.inl ⟨by rfl, ?_⟩) (by assumption) ?_
        rotate_left
        · intro w hSw
          try dsimp only at hSw
          go_simp
          try with_reducible rfl
        simp only [Act.put, List.setIfInBounds_toArray, List.set_cons_zero, List.set_cons_succ]
        refine wpAnyH_take (i := 5) (oi := ⟨some 40, _, _, _, _, _⟩) (v := ?_) rfl (by kernel_rfl) (by kernel_rfl) (by kernel_rfl) (fun _ _ _ h => h) (Or.inl ⟨by rfl, ?_⟩) (by assumption) ?_
        rotate_left
        · intro w hSw
          try dsimp only at hSw
          go_simp
          try with_reducible rfl
        simp only [Act.put, List.setIfInBounds_toArray, List.set_cons_zero, List.set_cons_succ]
        refine wpAnyH_take (i := 6) (oi := ⟨some 41, _, _, _, _, _⟩) (v := ?_) rfl (by kernel_rfl) (by kernel_rfl) (by kernel_rfl) (fun _ _ _ h => h) (Or.inl ⟨by rfl, ?_⟩) (by assumption) ?_
        rotate_left
        · intro w hSw
          try dsimp only at hSw
          go_simp
          try with_reducible rfl
        simp only [Act.put, List.setIfInBounds_toArray, List.set_cons_zero, List.set_cons_succ]
        refine wpAnyH_take (i := 7) (oi := ⟨some 42, _, _, _, _, _⟩) (v := ?_) rfl (by kernel_rfl) (by kernel_rfl) (by kernel_rfl) (fun _ _ _ h => h) (Or.inl ⟨by rfl, ?_⟩) (by assumption) ?_
        rotate_left
        · intro w hSw
          try dsimp only at hSw
          go_simp
          try with_reducible rfl
        simp only [Act.put, List.setIfInBounds_toArray, List.set_cons_zero, List.set_cons_succ]
        refine wpAnyH_take (i := 8) (oi := ⟨some 43, _, _, _, _, _⟩) (v := ?_) rfl (by kernel_rfl) (by kernel_rfl) (by kernel_rfl) (fun _ _ _ h => h) (Or.inl ⟨by rfl, ?_⟩) (by assumption) ?_
        rotate_left
        · intro w hSw
          try dsimp only at hSw
          go_simp
          try with_reducible rfl
        simp only [Act.put, List.setIfInBounds_toArray, List.set_cons_zero, List.set_cons_succ]
        refine wpAnyH_take (i := 9) (oi := ⟨some 44, _, _, _, _, _⟩) (v := ?_) rfl (by kernel_rfl) (by kernel_rfl) (by kernel_rfl) (fun _ _ _ h => h) (Or.inl ⟨by rfl, ?_⟩) (by assumption) ?_
        rotate_left
        · intro w hSw
          try dsimp only at hSw
          go_simp
          try with_reducible rfl
        simp only [Act.put, List.setIfInBounds_toArray, List.set_cons_zero, List.set_cons_succ]
        refine wpAnyH_take (i := 10) (oi := ⟨some 45, _, _, _, _, _⟩) (v := ?_) rfl (by kernel_rfl) (by kernel_rfl) (by kernel_rfl) (fun _ _ _ h => h) (Or.inl ⟨by rfl, ?_⟩) (by assumption) ?_
        rotate_left
        · intro w hSw
          try dsimp only at hSw
          go_simp
          try with_reducible rfl
        simp only [Act.put, List.setIfInBounds_toArray, List.set_cons_zero, List.set_cons_succ]
        refine wpAnyH_ready (rs := [11]) (by kernel_rfl) (by simp) ?_
        refine AllReadyH.cons rfl (fun K hK => ?_) AllReadyH.nil
        go_simp
        go_wp2_with (first | (go_at_call 63; refine (HK.out _).mono ?_; rintro e w2 ⟨rfl, hb2⟩; have b2 := (hHeld.2.2.2.2.2.2.2.2.2).trans (hb2.mono (hHeld.2.2.2.2.2.2.2.2.2).size)))
        refine hK.out _ _ ?_ (fun hHeld => ?_)
        · try dsimp only
          exact HSx.out _ b2
        clear hK K
        refine wpAnyH_take (i := 12) (oi := ⟨some 47, _, _, _, _, _⟩) (v := ?_) rfl (by kernel_rfl) (by kernel_rfl) (by kernel_rfl) (fun _ _ _ h => h) (Or.inl ⟨by rfl, ?_⟩) (by assumption) ?_
        rotate_left
        · intro w hSw
          try dsimp only at hSw
          go_simp
          try with_reducible rfl
        simp only [Act.put, List.setIfInBounds_toArray, List.set_cons_zero, List.set_cons_succ]
        refine wpAnyH_take (i := 13) (oi := ⟨some 48, _, _, _, _, _⟩) (v := ?_) rfl (by kernel_rfl) (by kernel_rfl) (by kernel_rfl) (fun _ _ _ h => h) (Or.inl ⟨by rfl, ?_⟩) (by assumption) ?_
        rotate_left
        · intro w hSw
          try dsimp only at hSw
          go_simp
          try with_reducible rfl
        simp only [Act.put, List.setIfInBounds_toArray, List.set_cons_zero, List.set_cons_succ]
        refine wpAnyH_take (i := 14) (oi := ⟨some 6, _, _, _, _, _⟩) (v := ?_) rfl (by kernel_rfl) (by kernel_rfl) (by kernel_rfl) (fun _ _ _ h => h) (Or.inl ⟨by rfl, ?_⟩) (by assumption) ?_
        rotate_left
        · intro w hSw
          try dsimp only at hSw
          go_simp
          try with_reducible rfl
        simp only [Act.put, List.setIfInBounds_toArray, List.set_cons_zero, List.set_cons_succ]
        refine wpAnyH_take (i := 15) (oi := ⟨some 7, _, _, _, _, _⟩) (v := ?_) rfl (by kernel_rfl) (by kernel_rfl) (by kernel_rfl) (fun _ _ _ h => h) (Or.inl ⟨by rfl, ?_⟩) (by assumption) ?_
        rotate_left
        · intro w hSw
          try dsimp only at hSw
          go_simp
          try with_reducible rfl
        simp only [Act.put, List.setIfInBounds_toArray, List.set_cons_zero, List.set_cons_succ]
        have HE := hidP (hHeld.2.2.2.2.2.2.2.2.2)
        refine wpAnyH_done (by kernel_rfl) ?_ _
        clear hHeld
        go_wp2_with fail
        refine bodyPost_ret (v := .tuple #[.int .i64 lo, .bool fb]) (by simp [results, Tryz.results62, go_sem]) rfl ?_
        exact ⟨⟨lo, by omega, HLH.out.1, HLH.out.2, by rw [HFx.out]⟩, HU.out.trans ((HBel.out.trans (HE.out.mono HBel.out.size)).mono HU.out.size)⟩
      · have g0 : decide ((lo : Int) < (n : Int)) = false := decide_eq_false (by omega)
        have g1 : decide (lo < n) = false := decide_eq_false (by omega)
        have HF : Hid (fndL ls ad lo = false) := hidP (by unfold fndL; rw [List.getElem?_eq_none (by have := HN.out; omega)])
        clear hbel
        go_wp2_with fail
        have HSx : Hid (∀ x, Below wr.heap.size wr x → (x.cell? ⟨w.heap.size, 0, none⟩ = some (.bool ad.s) ∧ x.cell? ⟨w.heap.size, 1, none⟩ = some (.int .i64 ad.H.toInt) ∧ x.cell? ⟨w.heap.size, 2, none⟩ = some (.int .i64 ad.L.toInt) ∧ Below wr.heap.size wr x)) := hidP fun x h =>
          ⟨(h.cell BL).trans B0, (h.cell BL).trans B1, (h.cell BL).trans B2, h⟩
        refine wp_region_held_drew (S := (fun x => x.cell? ⟨w.heap.size, 0, none⟩ = some (.bool ad.s) ∧ x.cell? ⟨w.heap.size, 1, none⟩ = some (.int .i64 ad.H.toInt) ∧ x.cell? ⟨w.heap.size, 2, none⟩ = some (.int .i64 ad.L.toInt) ∧ Below wr.heap.size wr x)) (by kernel_rfl) ?_ (fun hHeld => ?_)
        · try dsimp only
          exact HSx.out _ ((Below.refl _ _).drew)
        refine wpAnyH_take (i := 0) (oi := ⟨some 35, _, _, _, _, _⟩) (v := ?_) rfl (by kernel_rfl) (by kernel_rfl) (by kernel_rfl) (fun _ _ _ h => h) (Or.inl ⟨by rfl, ?_⟩) (by assumption) ?_
        rotate_left
        · intro w hSw
          try dsimp only at hSw
          go_simp
          try with_reducible rfl
        simp only [Act.put, List.setIfInBounds_toArray, List.set_cons_zero, List.set_cons_succ]
        refine wpAnyH_take (i := 1) (oi := ⟨some 36, _, _, _, _, _⟩) (v := ?_) rfl (by kernel_rfl) (by kernel_rfl) (by kernel_rfl) (fun _ _ _ h => h) (Or.inl ⟨by rfl, ?_⟩) (by assumption) ?_
        rotate_left
        · intro w hSw
          try dsimp only at hSw
          go_simp
          try with_reducible rfl
        simp only [Act.put, List.setIfInBounds_toArray, List.set_cons_zero, List.set_cons_succ]
        refine wpAnyH_take (i := 2) (oi := ⟨some 37, _, _, _, _, _⟩) (v := ?_) rfl (by kernel_rfl) (by kernel_rfl) (by kernel_rfl) (fun _ _ _ h => h) (Or.inl ⟨by rfl, ?_⟩) (by assumption) ?_
        rotate_left
        · intro w hSw
          try dsimp only at hSw
          go_simp
          try with_reducible rfl
        simp only [Act.put, List.setIfInBounds_toArray, List.set_cons_zero, List.set_cons_succ]
        refine wpAnyH_take (i := 3) (oi := ⟨some 38, _, _, _, _, _⟩) (v := ?_) rfl (by kernel_rfl) (by kernel_rfl) (by kernel_rfl) (fun _ _ _ h => h) (Or.inl ⟨by rfl, ?_⟩) (by assumption) ?_
        rotate_left
        · intro w hSw
          try dsimp only at hSw
          go_simp
          try with_reducible rfl
        simp only [Act.put, List.setIfInBounds_toArray, List.set_cons_zero, List.set_cons_succ]
        refine wpAnyH_take (i := 4) (oi := ⟨some 39, _, _, _, _, _⟩) (v := ?_) rfl (by kernel_rfl) (by kernel_rfl) (by kernel_rfl) (fun _ _ _ h => h) (Or.inl ⟨by rfl, ?_⟩) (by assumption) ?_
        rotate_left
        · intro w hSw
          try dsimp only at hSw
          go_simp
          try with_reducible rfl
        simp only [Act.put, List.setIfInBounds_toArray, List.set_cons_zero, List.set_cons_succ]
        refine wpAnyH_take (i := 5) (oi := ⟨some 40, _, _, _, _, _⟩) (v := undef) rfl (by kernel_rfl) (by kernel_rfl) (by kernel_rfl) (fun _ _ _ h => h) (Or.inr ⟨by rfl, rfl⟩) (by assumption) ?_
        simp only [Act.put, List.setIfInBounds_toArray, List.set_cons_zero, List.set_cons_succ]
        refine wpAnyH_take (i := 6) (oi := ⟨some 41, _, _, _, _, _⟩) (v := undef) rfl (by kernel_rfl) (by kernel_rfl) (by kernel_rfl) (fun _ _ _ h => h) (Or.inr ⟨by rfl, rfl⟩) (by assumption) ?_
        simp only [Act.put, List.setIfInBounds_toArray, List.set_cons_zero, List.set_cons_succ]
        refine wpAnyH_take (i := 7) (oi := ⟨some 42, _, _, _, _, _⟩) (v := undef) rfl (by kernel_rfl) (by kernel_rfl) (by kernel_rfl) (fun _ _ _ h => h) (Or.inr ⟨by rfl, rfl⟩) (by assumption) ?_
        simp only [Act.put, List.setIfInBounds_toArray, List.set_cons_zero, List.set_cons_succ]
        refine wpAnyH_take (i := 8) (oi := ⟨some 43, _, _, _, _, _⟩) (v := undef) rfl (by kernel_rfl) (by kernel_rfl) (by kernel_rfl) (fun _ _ _ h => h) (Or.inr ⟨by rfl, rfl⟩) (by assumption) ?_
        simp only [Act.put, List.setIfInBounds_toArray, List.set_cons_zero, List.set_cons_succ]
        refine wpAnyH_take (i := 9) (oi := ⟨some 44, _, _, _, _, _⟩) (v := undef) rfl (by kernel_rfl) (by kernel_rfl) (by kernel_rfl) (fun _ _ _ h => h) (Or.inr ⟨by rfl, rfl⟩) (by assumption) ?_
        simp only [Act.put, List.setIfInBounds_toArray, List.set_cons_zero, List.set_cons_succ]
        refine wpAnyH_take (i := 10) (oi := ⟨some 45, _, _, _, _, _⟩) (v := undef) rfl (by kernel_rfl) (by kernel_rfl) (by kernel_rfl) (fun _ _ _ h => h) (Or.inr ⟨by rfl, rfl⟩) (by assumption) ?_
        simp only [Act.put, List.setIfInBounds_toArray, List.set_cons_zero, List.set_cons_succ]
        refine wpAnyH_take (i := 11) (oi := ⟨some 46, _, _, _, _, _⟩) (v := undef) rfl (by kernel_rfl) (by kernel_rfl) (by kernel_rfl) (fun _ _ _ h => h) (Or.inr ⟨by rfl, rfl⟩) (by assumption) ?_
        simp only [Act.put, List.setIfInBounds_toArray, List.set_cons_zero, List.set_cons_succ]
        refine wpAnyH_take (i := 12) (oi := ⟨some 47, _, _, _, _, _⟩) (v := undef) rfl (by kernel_rfl) (by kernel_rfl) (by kernel_rfl) (fun _ _ _ h => h) (Or.inr ⟨by rfl, rfl⟩) (by assumption) ?_
        simp only [Act.put, List.setIfInBounds_toArray, List.set_cons_zero, List.set_cons_succ]
        refine wpAnyH_take (i := 13) (oi := ⟨some 48, _, _, _, _, _⟩) (v := ?_) rfl (by kernel_rfl) (by kernel_rfl) (by kernel_rfl) (fun _ _ _ h => h) (Or.inl ⟨by rfl, ?_⟩) (by assumption) ?_
        rotate_left
        · intro w hSw
          try dsimp only at hSw
          go_simp
          try with_reducible rfl
        simp only [Act.put, List.setIfInBounds_toArray, List.set_cons_zero, List.set_cons_succ]
        refine wpAnyH_take (i := 14) (oi := ⟨some 6, _, _, _, _, _⟩) (v := ?_) rfl (by kernel_rfl) (by kernel_rfl) (by kernel_rfl) (fun _ _ _ h => h) (Or.inl ⟨by rfl, ?_⟩) (by assumption) ?_
        rotate_left
        · intro w hSw
          try dsimp only at hSw
          go_simp
          try with_reducible rfl
        simp only [Act.put, List.setIfInBounds_toArray, List.set_cons_zero, List.set_cons_succ]
        refine wpAnyH_take (i := 15) (oi := ⟨some 7, _, _, _, _, _⟩) (v := ?_) rfl (by kernel_rfl) (by kernel_rfl) (by kernel_rfl) (fun _ _ _ h => h) (Or.inl ⟨by rfl, ?_⟩) (by assumption) ?_
        rotate_left
        · intro w hSw
          try dsimp only at hSw
          go_simp
          try with_reducible rfl
        simp only [Act.put, List.setIfInBounds_toArray, List.set_cons_zero, List.set_cons_succ]
        have HE := hidP (hHeld.2.2.2)
        refine wpAnyH_done (by kernel_rfl) ?_ _
        clear hHeld
        go_wp2_with fail
        refine bodyPost_ret (v := .tuple #[.int .i64 lo, .bool false]) (by simp [results, Tryz.results62, go_sem]) rfl ?_
        exact ⟨⟨lo, by omega, HLH.out.1, HLH.out.2, by rw [HF.out]⟩, HU.out.trans ((HBel.out.trans (HE.out.mono HBel.out.size)).mono HU.out.size)⟩

set_option maxHeartbeats 1000000 in
theorem placeOfLease_any (a : Option Addr) (n c : Nat) (T N : Int) (ls : List Ls) (ad : Ad) (w : World) (hn : n = ls.length) (hB : RowG KLs w a ls) (hl : n ≤ 1048576) (hs : SrtL ls) (hat : ad.ok = true) :
    Calls Tryz.prog 47 #[.agg #[.slice a n c, .int .i64 T, .int .i64 N], .agg #[.bool ad.s, .int .i64 ad.H.toInt, .int .i64 ad.L.toInt]] w fun e w' => (∃ i : Nat, i ≤ n ∧ (∀ (j : Nat) (q : Ls), j < i → ls[j]? = some q → q.a.key < ad.key) ∧ (∀ (j : Nat) (q : Ls), i ≤ j → ls[j]? = some q → ad.key ≤ q.a.key) ∧ e = .returned (.tuple #[.int .i64 i, .bool (fndL ls ad i)])) ∧ Below w.heap.size w w' := by
  have HF := hidP (fun W h => binLs_any a n c ls ad W hn (hB.later h) hl hs hat)
  clear hB hn hs hat
  go_enter Tryz.func47, Tryz.ntmps47
  go_wp2_with fail
  refine (HF.out _ ((alloc_below w _).alloc (by simp) _)).mono ?_
  rintro e w2 ⟨⟨i, hi, h1, h2, rfl⟩, hb2⟩
  have HB2 := hidP hb2
  have H12 := hidP (And.intro h1 h2)
  clear hb2 h1 h2
  go_wp2_with fail
  refine bodyPost_ret (v := .tuple #[.int .i64 i, .bool (fndL ls ad i)]) (by simp [results, Tryz.results47, go_sem]) rfl ?_
  exact ⟨⟨i, hi, H12.out.1, H12.out.2, rfl⟩, ((alloc_below w _).alloc (by simp) _).trans (HB2.out.mono (by simp; omega))⟩

end Go.Proofs.YtddnofonodgneaaGreatDoor
