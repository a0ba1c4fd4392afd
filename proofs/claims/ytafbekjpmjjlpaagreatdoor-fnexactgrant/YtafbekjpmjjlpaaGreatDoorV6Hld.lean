/-
  Who holds an address: the program's placeHeld and the specification's l6Held.
-/
import Derived.Test.YtafbekjpmjjlpaaGreatDoorV6Bin
import Derived.Test.YtafbekjpmjjlpaaGreatDoorV6Tok
import Derived.Test.YtafbekjpmjjlpaaGreatDoorV6SBk
namespace Go.Proofs.YtafbekjpmjjlpaaGreatDoor
open Go.RowKit

theorem key_inj {a b : Ad} (h : a.key = b.key) : a = b := by
  have h1 := adr_lt a.H a.L
  have h2 := adr_lt b.H b.L
  unfold Ad.key keyN at h
  have hs : a.s = b.s := by
    cases hx : a.s <;> cases hy : b.s <;> simp [hx, hy] at h ⊢ <;> omega
  rw [hs] at h
  have h3 := adrN_inj (Nat.add_left_cancel h)
  cases a; cases b
  simp only at hs h3
  rw [hs, h3.1, h3.2]
theorem key_eq (q ad : Ad) : (q.s == ad.s && (q.H.toInt == ad.H.toInt && q.L.toInt == ad.L.toInt)) = (q.key == ad.key) := by
  by_cases h : q = ad
  · subst h; simp
  · have h1 : (q.key == ad.key) = false := by
      rw [beq_eq_false_iff_ne]; exact fun e => h (key_inj e)
    rw [h1]
    apply Bool.eq_false_iff.2
    intro hc
    simp only [Bool.and_eq_true, beq_iff_eq] at hc
    apply h
    cases q; cases ad
    simp only at hc
    rw [hc.1, BitVec.toInt_inj.1 hc.2.1, BitVec.toInt_inj.1 hc.2.2]
/-- Where the lease of an address stands. -/
def fxL (ls : List Ls) (ad : Ad) : Option Nat := ls.findIdx? fun q => q.a.key == ad.key
theorem fx_some {ls : List Ls} {ad : Ad} {i : Nat} {q : Ls} (hq : ls[i]? = some q) (he : q.a.key = ad.key) (hlow : ∀ (j : Nat) (r : Ls), j < i → ls[j]? = some r → r.a.key ≠ ad.key) : fxL ls ad = some i := by
  unfold fxL
  rw [List.findIdx?_eq_some_iff_getElem]
  have hi := (List.getElem?_eq_some_iff.1 hq).1
  have hg := (List.getElem?_eq_some_iff.1 hq).2
  refine ⟨hi, by rw [hg]; simpa using he, fun j hj => ?_⟩
  have := hlow j ls[j] hj (List.getElem?_eq_getElem (by omega))
  simpa using this
theorem fx_none {ls : List Ls} {ad : Ad} (h : ∀ (j : Nat) (r : Ls), ls[j]? = some r → r.a.key ≠ ad.key) : fxL ls ad = none := by
  unfold fxL
  rw [List.findIdx?_eq_none_iff]
  intro q hq
  obtain ⟨j, hj, e⟩ := List.getElem_of_mem hq
  have := h j q (by rw [← e]; exact List.getElem?_eq_getElem hj)
  simpa using this
theorem fx_at {ls : List Ls} {ad : Ad} {i : Nat} (h : fxL ls ad = some i) : ∃ q, ls[i]? = some q ∧ q.a.key = ad.key ∧ i < ls.length := by
  unfold fxL at h
  rw [List.findIdx?_eq_some_iff_getElem] at h
  obtain ⟨hi, he, _⟩ := h
  exact ⟨ls[i], List.getElem?_eq_getElem hi, by simpa using he, hi⟩
/-- What a binary search finds. -/
theorem fx_bin {ls : List Ls} {ad : Ad} (hs : SrtL ls) {i : Nat} (hlow : ∀ (j : Nat) (q : Ls), j < i → ls[j]? = some q → q.a.key < ad.key) (hhig : ∀ (j : Nat) (q : Ls), i ≤ j → ls[j]? = some q → ad.key ≤ q.a.key) : (fndL ls ad i = true ∧ fxL ls ad = some i) ∨ (fndL ls ad i = false ∧ fxL ls ad = none) := by
  unfold fndL
  cases hq : ls[i]? with
  | none =>
    right
    refine ⟨rfl, fx_none fun j r hr => ?_⟩
    have h1 : j < i := by
      rcases Nat.lt_or_ge j i with h | h
      · exact h
      · have := (List.getElem?_eq_some_iff.1 hr).1
        rw [List.getElem?_eq_none_iff] at hq; omega
    have := hlow j r h1 hr; omega
  | some q =>
    by_cases he : q.a.key = ad.key
    · left
      exact ⟨by simpa using he, fx_some hq he (fun j r hj hr => by have := hlow j r hj hr; omega)⟩
    · right
      refine ⟨by simpa using he, fx_none fun j r hr => ?_⟩
      have h0 := hhig i q (Nat.le_refl _) hq
      rcases Nat.lt_trichotomy j i with h | h | h
      · have := hlow j r h hr; omega
      · subst h; rw [hq] at hr; cases hr; exact he
      · have := hs.1 i j q r h hq hr; omega
/-- The code of who comes with a token. -/
def hcdL (ls : List Ls) (ad : Ad) (tk : Int) : Int := match fxL ls ad with
  | none => 13
  | some i => match ls[i]? with
    | none => 13
    | some q => if q.k = tk then 0 else 14

def fxI (ls : List Ls) (ad : Ad) : Int := match fxL ls ad with | none => -1 | some i => i
set_option maxRecDepth 10000 in
set_option maxHeartbeats 2000000 in
theorem l6Find_any (a : Option Addr) (n c : Nat) (T N : Int) (ls : List Ls) (ad : Ad) (w : World) (hn : n = ls.length) (hB : RowG KLs w a ls) (hl : n ≤ 1048576) :
    Calls Tryz.prog 18 #[.agg #[.slice a n c, .int .i64 T, .int .i64 N], .agg #[.bool ad.s, .int .i64 ad.H.toInt, .int .i64 ad.L.toInt]] w fun e w' => e = .returned (.int .i64 (fxI ls ad)) ∧ Below w.heap.size w w' := by
  have HB := hidP (fun W h => hB.later (w' := W) h)
  have HN := hidP hn
  clear hB hn
  go_enter Tryz.func18, Tryz.ntmps18
  go_wp2_with fail
  obtain ⟨b0, b1, b2⟩ := box3B w 30 (.slice a n c) (.int .i64 T) (.int .i64 N)
  have bB := alloc_below w (.cells #[.slice a n c, .int .i64 T, .int .i64 N] 30)
  have bL := alloc_lt w (.cells #[.slice a n c, .int .i64 T, .int .i64 N] 30)
  have bS : (w.alloc (.cells #[.slice a n c, .int .i64 T, .int .i64 N] 30)).heap.size = w.heap.size + 1 := by simp
  generalize w.alloc (.cells #[.slice a n c, .int .i64 T, .int .i64 N] 30) = W1 at *
  obtain ⟨y0, y1, y2⟩ := box3B W1 34 (.bool ad.s) (.int .i64 ad.H.toInt) (.int .i64 ad.L.toInt)
  have yB := alloc_below W1 (.cells #[.bool ad.s, .int .i64 ad.H.toInt, .int .i64 ad.L.toInt] 34)
  have yL := alloc_lt W1 (.cells #[.bool ad.s, .int .i64 ad.H.toInt, .int .i64 ad.L.toInt] 34)
  have yS : (W1.alloc (.cells #[.bool ad.s, .int .i64 ad.H.toInt, .int .i64 ad.L.toInt] 34)).heap.size = W1.heap.size + 1 := by simp
  generalize W1.alloc (.cells #[.bool ad.s, .int .i64 ad.H.toInt, .int .i64 ad.L.toInt] 34) = W2 at *
  rw [bS] at y0 y1 y2 yL yS
  have hL0 : w.heap.size < W2.heap.size := by omega
  have b0' := (yB.cell bL).trans b0
  have HU := hidP (bB.trans (yB.mono bB.size))
  have HR := hidP (HB.out _ HU.out)
  clear bB yB bS yS b0 b1 b2 HB bL
  go_loopw [5] (fun t5 wr => ∃ k : Nat, k ≤ n ∧ t5 = .int .i64 k ∧ (∀ (j : Nat) (r : Ls), j < k → ls[j]? = some r → r.a.key ≠ ad.key) ∧ Below W2.heap.size W2 wr) (fun t5 _ => n - (intOf t5).toNat)
  case atStart => exact ⟨0, Nat.zero_le _, rfl, (fun j r h => by omega), Below.refl _ _⟩
  case round =>
    obtain ⟨k, hk, rfl, hlow, hbel⟩ := hrel
    have HBel := hidP hbel
    have HLow := hidP hlow
    have B0 := (hbel.cell hL0).trans b0'
    have BL : w.heap.size < wr.heap.size := Nat.lt_of_lt_of_le hL0 hbel.size
    have Y0 := (hbel.cell yL).trans y0
    have Y1 := (hbel.cell yL).trans y1
    have Y2 := (hbel.cell yL).trans y2
    have YL : w.heap.size + 1 < wr.heap.size := Nat.lt_of_lt_of_le yL hbel.size
    clear hlow
    by_cases hlt : k < n
    · obtain ⟨p, o, q, rfl, hp, hq, c0, c1, c2, c3, c4, c5⟩ := rowLs HR.out k (by have := HN.out; omega)
      have d0 := (hbel.cell hp).trans c0
      have d1 := (hbel.cell hp).trans c1
      have d2 := (hbel.cell hp).trans c2
      have hpw : p < wr.heap.size := Nat.lt_of_lt_of_le hp hbel.size
      have k0 : (0 : Int) ≤ (k : Int) := by omega
      have k1 : (k : Int) < (n : Int) := by omega
      have HQ := hidP hq
      have hE := fun wx => eqSt q.a.s q.a.H.toInt q.a.L.toInt ad.s ad.H.toInt ad.L.toInt wx
      simp only [key_eq q.a ad] at hE
      clear c0 c1 c2 c3 c4 c5 hq hbel
      cases hk2 : (q.a.key == ad.key)
      · rw [hk2] at hE
        go_wp2_with fail
        have HSx : Hid (∀ x, Below wr.heap.size wr x → (x.cell? ⟨w.heap.size, 0, none⟩ = some (.slice (some ⟨p, o, none⟩) n c) ∧ x.cell? ⟨p, o + k * 6, none⟩ = some (.bool q.a.s) ∧ x.cell? ⟨p, o + k * 6 + 1, none⟩ = some (.int .i64 q.a.H.toInt) ∧ x.cell? ⟨p, o + k * 6 + 2, none⟩ = some (.int .i64 q.a.L.toInt) ∧ x.cell? ⟨w.heap.size + 1, 0, none⟩ = some (.bool ad.s) ∧ x.cell? ⟨w.heap.size + 1, 1, none⟩ = some (.int .i64 ad.H.toInt) ∧ x.cell? ⟨w.heap.size + 1, 2, none⟩ = some (.int .i64 ad.L.toInt) ∧ Below wr.heap.size wr x)) := hidP fun x h =>
          ⟨(h.cell BL).trans B0, (h.cell hpw).trans d0, (h.cell hpw).trans d1, (h.cell hpw).trans d2, (h.cell YL).trans Y0, (h.cell YL).trans Y1, (h.cell YL).trans Y2, h⟩
        refine wp_region_held_drew (S := (fun x => x.cell? ⟨w.heap.size, 0, none⟩ = some (.slice (some ⟨p, o, none⟩) n c) ∧ x.cell? ⟨p, o + k * 6, none⟩ = some (.bool q.a.s) ∧ x.cell? ⟨p, o + k * 6 + 1, none⟩ = some (.int .i64 q.a.H.toInt) ∧ x.cell? ⟨p, o + k * 6 + 2, none⟩ = some (.int .i64 q.a.L.toInt) ∧ x.cell? ⟨w.heap.size + 1, 0, none⟩ = some (.bool ad.s) ∧ x.cell? ⟨w.heap.size + 1, 1, none⟩ = some (.int .i64 ad.H.toInt) ∧ x.cell? ⟨w.heap.size + 1, 2, none⟩ = some (.int .i64 ad.L.toInt) ∧ Below wr.heap.size wr x)) (by kernel_rfl) ?_ (fun hHeld => ?_)
        · try dsimp only
          exact HSx.out _ ((Below.refl _ _).drew)
        refine wpAnyH_take (i := 0) (oi := ⟨some 13, _, _, _, _, _⟩) (v := ?_) rfl (by kernel_rfl) (by kernel_rfl) (by kernel_rfl) (fun _ _ _ h => h) (Or.inl ⟨by rfl, ?_⟩) (by assumption) ?_
        rotate_left
        · intro w hSw
          try dsimp only at hSw
          go_simp
          try with_reducible rfl
        simp only [Act.put, List.setIfInBounds_toArray, List.set_cons_zero, List.set_cons_succ]
        refine wpAnyH_take (i := 1) (oi := ⟨some 14, _, _, _, _, _⟩) (v := ?_) rfl (by kernel_rfl) (by kernel_rfl) (by kernel_rfl) (fun _ _ _ h => h) (Or.inl ⟨by rfl, ?_⟩) (by assumption) ?_
        rotate_left
        · intro w hSw
          try dsimp only at hSw
          go_simp
          try with_reducible rfl
        simp only [Act.put, List.setIfInBounds_toArray, List.set_cons_zero, List.set_cons_succ]
        refine wpAnyH_take (i := 2) (oi := ⟨some 15, _, _, _, _, _⟩) (v := ?_) rfl (by kernel_rfl) (by kernel_rfl) (by kernel_rfl) (fun _ _ _ h => h) (Or.inl ⟨by rfl, ?_⟩) (by assumption) ?_
        rotate_left
        · intro w hSw
          try dsimp only at hSw
          go_simp
          try with_reducible rfl
        simp only [Act.put, List.setIfInBounds_toArray, List.set_cons_zero, List.set_cons_succ]
        refine wpAnyH_take (i := 3) (oi := ⟨some 16, _, _, _, _, _⟩) (v := ?_) rfl (by kernel_rfl) (by kernel_rfl) (by kernel_rfl) (fun _ _ _ h => h) (Or.inl ⟨by rfl, ?_⟩) (by assumption) ?_
        rotate_left
        · intro w hSw
          try dsimp only at hSw
          go_simp
          try with_reducible rfl
        simp only [Act.put, List.setIfInBounds_toArray, List.set_cons_zero, List.set_cons_succ]
        refine wpAnyH_take (i := 4) (oi := ⟨some 17, _, _, _, _, _⟩) (v := ?_) rfl (by kernel_rfl) (by kernel_rfl) (by kernel_rfl) (fun _ _ _ h => h) (Or.inl ⟨by rfl, ?_⟩) (by assumption) ?_
        rotate_left
        · intro w hSw
          try dsimp only at hSw
          go_simp
          try with_reducible rfl
        simp only [Act.put, List.setIfInBounds_toArray, List.set_cons_zero, List.set_cons_succ]
        refine wpAnyH_take (i := 5) (oi := ⟨some 18, _, _, _, _, _⟩) (v := ?_) rfl (by kernel_rfl) (by kernel_rfl) (by kernel_rfl) (fun _ _ _ h => h) (Or.inl ⟨by rfl, ?_⟩) (by assumption) ?_
        rotate_left
        · intro w hSw
          try dsimp only at hSw
          go_simp
          try with_reducible rfl
        simp only [Act.put, List.setIfInBounds_toArray, List.set_cons_zero, List.set_cons_succ]
        refine wpAnyH_take (i := 6) (oi := ⟨some 19, _, _, _, _, _⟩) (v := ?_) rfl (by kernel_rfl) (by kernel_rfl) (by kernel_rfl) (fun _ _ _ h => h) (Or.inl ⟨by rfl, ?_⟩) (by assumption) ?_
        rotate_left
        · intro w hSw
          try dsimp only at hSw
          go_simp
          try with_reducible rfl
        simp only [Act.put, List.setIfInBounds_toArray, List.set_cons_zero, List.set_cons_succ]
        refine wpAnyH_take (i := 7) (oi := ⟨some 20, _, _, _, _, _⟩) (v := ?_) rfl (by kernel_rfl) (by kernel_rfl) (by kernel_rfl) (fun _ _ _ h => h) (Or.inl ⟨by rfl, ?_⟩) (by assumption) ?_
        rotate_left
        · intro w hSw
          try dsimp only at hSw
          go_simp
          try with_reducible rfl
        simp only [Act.put, List.setIfInBounds_toArray, List.set_cons_zero, List.set_cons_succ]
        have HE := hidP (hHeld.2.2.2.2.2.2.2)
        refine wpAnyH_done (by kernel_rfl) ?_ _
        clear hHeld
        go_wp2_with fail
        go_roundw
        case rel =>
          refine ⟨k + 1, by omega, by go_num, (fun j r hj hr => ?_), HBel.out.trans (HE.out.mono HBel.out.size)⟩
          by_cases hjk : j = k
          · subst hjk; rw [HQ.out] at hr; cases hr; simpa using hk2
          · exact HLow.out j r (by omega) hr
        case measure => simp [intOf]; omega
      · rw [hk2] at hE
        go_wp2_with fail
        have HSx : Hid (∀ x, Below wr.heap.size wr x → (x.cell? ⟨w.heap.size, 0, none⟩ = some (.slice (some ⟨p, o, none⟩) n c) ∧ x.cell? ⟨p, o + k * 6, none⟩ = some (.bool q.a.s) ∧ x.cell? ⟨p, o + k * 6 + 1, none⟩ = some (.int .i64 q.a.H.toInt) ∧ x.cell? ⟨p, o + k * 6 + 2, none⟩ = some (.int .i64 q.a.L.toInt) ∧ x.cell? ⟨w.heap.size + 1, 0, none⟩ = some (.bool ad.s) ∧ x.cell? ⟨w.heap.size + 1, 1, none⟩ = some (.int .i64 ad.H.toInt) ∧ x.cell? ⟨w.heap.size + 1, 2, none⟩ = some (.int .i64 ad.L.toInt) ∧ Below wr.heap.size wr x)) := hidP fun x h =>
          ⟨(h.cell BL).trans B0, (h.cell hpw).trans d0, (h.cell hpw).trans d1, (h.cell hpw).trans d2, (h.cell YL).trans Y0, (h.cell YL).trans Y1, (h.cell YL).trans Y2, h⟩
        refine wp_region_held_drew (S := (fun x => x.cell? ⟨w.heap.size, 0, none⟩ = some (.slice (some ⟨p, o, none⟩) n c) ∧ x.cell? ⟨p, o + k * 6, none⟩ = some (.bool q.a.s) ∧ x.cell? ⟨p, o + k * 6 + 1, none⟩ = some (.int .i64 q.a.H.toInt) ∧ x.cell? ⟨p, o + k * 6 + 2, none⟩ = some (.int .i64 q.a.L.toInt) ∧ x.cell? ⟨w.heap.size + 1, 0, none⟩ = some (.bool ad.s) ∧ x.cell? ⟨w.heap.size + 1, 1, none⟩ = some (.int .i64 ad.H.toInt) ∧ x.cell? ⟨w.heap.size + 1, 2, none⟩ = some (.int .i64 ad.L.toInt) ∧ Below wr.heap.size wr x)) (by kernel_rfl) ?_ (fun hHeld => ?_)
        · try dsimp only
          exact HSx.out _ ((Below.refl _ _).drew)
        refine wpAnyH_take (i := 0) (oi := ⟨some 13, _, _, _, _, _⟩) (v := ?_) rfl (by kernel_rfl) (by kernel_rfl) (by kernel_rfl) (fun _ _ _ h => h) (Or.inl ⟨by rfl, ?_⟩) (by assumption) ?_
        rotate_left
        · intro w hSw
          try dsimp only at hSw
          go_simp
          try with_reducible rfl
        simp only [Act.put, List.setIfInBounds_toArray, List.set_cons_zero, List.set_cons_succ]
        refine wpAnyH_take (i := 1) (oi := ⟨some 14, _, _, _, _, _⟩) (v := ?_) rfl (by kernel_rfl) (by kernel_rfl) (by kernel_rfl) (fun _ _ _ h => h) (Or.inl ⟨by rfl, ?_⟩) (by assumption) ?_
        rotate_left
        · intro w hSw
          try dsimp only at hSw
          go_simp
          try with_reducible rfl
        simp only [Act.put, List.setIfInBounds_toArray, List.set_cons_zero, List.set_cons_succ]
        refine wpAnyH_take (i := 2) (oi := ⟨some 15, _, _, _, _, _⟩) (v := ?_) rfl (by kernel_rfl) (by kernel_rfl) (by kernel_rfl) (fun _ _ _ h => h) (Or.inl ⟨by rfl, ?_⟩) (by assumption) ?_
        rotate_left
        · intro w hSw
          try dsimp only at hSw
          go_simp
          try with_reducible rfl
        simp only [Act.put, List.setIfInBounds_toArray, List.set_cons_zero, List.set_cons_succ]
        refine wpAnyH_take (i := 3) (oi := ⟨some 16, _, _, _, _, _⟩) (v := ?_) rfl (by kernel_rfl) (by kernel_rfl) (by kernel_rfl) (fun _ _ _ h => h) (Or.inl ⟨by rfl, ?_⟩) (by assumption) ?_
        rotate_left
        · intro w hSw
          try dsimp only at hSw
          go_simp
          try with_reducible rfl
        simp only [Act.put, List.setIfInBounds_toArray, List.set_cons_zero, List.set_cons_succ]
        refine wpAnyH_take (i := 4) (oi := ⟨some 17, _, _, _, _, _⟩) (v := ?_) rfl (by kernel_rfl) (by kernel_rfl) (by kernel_rfl) (fun _ _ _ h => h) (Or.inl ⟨by rfl, ?_⟩) (by assumption) ?_
        rotate_left
        · intro w hSw
          try dsimp only at hSw
          go_simp
          try with_reducible rfl
        simp only [Act.put, List.setIfInBounds_toArray, List.set_cons_zero, List.set_cons_succ]
        refine wpAnyH_take (i := 5) (oi := ⟨some 18, _, _, _, _, _⟩) (v := ?_) rfl (by kernel_rfl) (by kernel_rfl) (by kernel_rfl) (fun _ _ _ h => h) (Or.inl ⟨by rfl, ?_⟩) (by assumption) ?_
        rotate_left
        · intro w hSw
          try dsimp only at hSw
          go_simp
          try with_reducible rfl
        simp only [Act.put, List.setIfInBounds_toArray, List.set_cons_zero, List.set_cons_succ]
        refine wpAnyH_take (i := 6) (oi := ⟨some 19, _, _, _, _, _⟩) (v := ?_) rfl (by kernel_rfl) (by kernel_rfl) (by kernel_rfl) (fun _ _ _ h => h) (Or.inl ⟨by rfl, ?_⟩) (by assumption) ?_
        rotate_left
        · intro w hSw
          try dsimp only at hSw
          go_simp
          try with_reducible rfl
        simp only [Act.put, List.setIfInBounds_toArray, List.set_cons_zero, List.set_cons_succ]
        refine wpAnyH_take (i := 7) (oi := ⟨some 20, _, _, _, _, _⟩) (v := ?_) rfl (by kernel_rfl) (by kernel_rfl) (by kernel_rfl) (fun _ _ _ h => h) (Or.inl ⟨by rfl, ?_⟩) (by assumption) ?_
        rotate_left
        · intro w hSw
          try dsimp only at hSw
          go_simp
          try with_reducible rfl
        simp only [Act.put, List.setIfInBounds_toArray, List.set_cons_zero, List.set_cons_succ]
        have HE := hidP (hHeld.2.2.2.2.2.2.2)
        refine wpAnyH_done (by kernel_rfl) ?_ _
        clear hHeld
        go_wp2_with fail
        go_ret
        exact ⟨ret_i (Eq.symm (by unfold fxI; rw [fx_some HQ.out (by simpa using hk2) HLow.out])), HU.out.trans ((HBel.out.trans (HE.out.mono HBel.out.size)).mono HU.out.size)⟩
    · have HF : Hid (fxI ls ad = -1) := hidP (by
        unfold fxI
        rw [fx_none fun j r hr => HLow.out j r (by have := (List.getElem?_eq_some_iff.1 hr).1; have := HN.out; omega) hr])
      clear hbel
      go_wp2_with fail
      go_ret
      exact ⟨ret_i HF.out.symm, HU.out.trans (HBel.out.mono HU.out.size)⟩

end Go.Proofs.YtafbekjpmjjlpaaGreatDoor
