/-
  The program's ownFile and sureFile and the specification's l11Copy: a file of the same bytes in a row of its own.
-/
import Derived.Test.YtfhlplpiojhhmaaVFileS
import Derived.Lib.SliceRun
namespace Go.Proofs.Ytfhlplpiojhhmaa
open Go.ChangeShapes Go.WideShapes Go.ChangeAt Go.RowKit Go.Joins Go.Deep

set_option maxHeartbeats 1000000 in
theorem cloneByte (a : Option Addr) (n cap : Nat) (ps : List Int) (w : World) (hn : n = ps.length) (hB : RowG KBy w a ps) (hl : n ≤ 1048576) :
    Calls Try.prog 38 #[.slice a n cap] w fun e w' => ∃ a' c', e = .returned (.slice a' n c') ∧ OwnG KBy 5 w' w.heap.size (.slice a' n c') ps ∧ Below w.heap.size w w' := by
  have hq : ∀ w, (binOp .eql 22 (.slice a n cap) (.slice none 0 0)).run Try.prog w = .ok (.bool a.isNone) w := fun w => Lib.run_eql_slice_nil w _ _ a n cap 0 0 Try.tyBy.1
  cases a with
  | none =>
    have hps : ps = [] := by
      cases ps with
      | nil => rfl
      | cons z t => obtain ⟨p, o, z', e, _⟩ := hB 0 (by simp); cases e
    subst hps
    have hn0 : n = 0 := hn
    subst hn0
    clear hB hn
    go_enter Try.func38, Try.ntmps38
    go_wp2_with fail
    go_ret
    exact ⟨none, 0, rfl, own_noneG KBy w w.heap.size 5, Below.refl _ _⟩
  | some ad =>
    have HB := hidP hB
    have HN := hidP hn
    clear hB hn
    have HZ := hidP (own_zeroG KBy w w.heap.size 5 (Nat.le_refl _))
    have HZB := hidP (alloc_below w (.cells #[] 5))
    go_enter Try.func38, Try.ntmps38
    go_wp2_with (at_builtin; refine wpList_appG Try.tyBy _ rfl (.tmp 5) (.tmp 6) 22 rfl w.heap.size (some ⟨w.heap.size, 0, none⟩) 0 0 n [] ps (.slice (some ad) n cap) rfl rfl HN.out HZ.out rfl (src_rowG Try.tyBy.1 n cap (by show 0 < 1; omega) HN.out (HB.out.later HZB.out) (fun h => by cases h)) (by omega) (by simp) ?_; intro a6 c6 w6 ho6 hg6 ht6)
    have HF := hidP (And.intro ho6 (below_appG HZB.out HZ.out (by simp) hg6))
    clear ho6 hg6 ht6
    go_wp2_with fail
    go_ret
    have h := HF.out
    rw [Nat.zero_add, List.nil_append] at h
    exact ⟨a6, c6, rfl, h.1, h.2⟩

theorem frz2 (w : World) (t : TypeId) (u v : Value) (o : Nat) : (w.alloc (.cells #[u, v] t)).frozen? ⟨w.heap.size, o, none⟩ = false := by simp [go_sem]
theorem OwnG.drewG {α : Type} {K : Kd α} {t : TypeId} {w : World} {B : Nat} {v : Value} {ps : List α} (h : OwnG K t w B v ps) : OwnG K t w.drew B v ps := OwnG.later h (Below.refl _ _).drew
theorem ob_some (p n c : Nat) : (Value.slice (some ⟨p, 0, none⟩) n c).ownBlock = some p := rfl
theorem OwnG.ne_of {α : Type} {K : Kd α} {t : TypeId} {w : World} {B x : Nat} {v : Value} {ps : List α} (h : OwnG K t w B v ps) (hx : x < B) : ∀ k, v.ownBlock = some k → some x ≠ some k := fun k hk e => by
  have := (OwnG.lt h k hk).1
  simp at e; omega

set_option maxRecDepth 10000 in
set_option maxHeartbeats 2000000 in
theorem ownFile_any (a : Option Addr) (n c : Nat) (N : Int) (ls : List Int) (w : World) (hn : n = ls.length) (hB : RowG KBy w a ls) (hl : n ≤ 1048576) :
    Calls Try.prog 30 #[.agg #[.slice a n c, .int .i64 N]] w fun e w' => ∃ a' c', e = .returned (.agg #[.slice a' n c', .int .i64 N]) ∧ OwnG KBy 5 w' w.heap.size (.slice a' n c') ls ∧ Below w.heap.size w w' := by
  have HC := hidP (fun W h => cloneByte a n c ls W hn (hB.later h) hl)
  clear hB hn
  go_enter Try.func30, Try.ntmps30
  go_wp2_with fail
  have uF := frz2 w 25 (.slice a n c) (.int .i64 N)
  obtain ⟨u0, u1⟩ := box2D w 25 (.slice a n c) (.int .i64 N)
  have uB := alloc_below w (.cells #[.slice a n c, .int .i64 N] 25)
  have uL := alloc_lt w (.cells #[.slice a n c, .int .i64 N] 25)
  have uS : (w.alloc (.cells #[.slice a n c, .int .i64 N] 25)).heap.size = w.heap.size + 1 := by simp
  generalize w.alloc (.cells #[.slice a n c, .int .i64 N] 25) = W1 at *
  have yF := frz2 W1 25 (.slice none 0 0) (.int .i64 0)
  obtain ⟨y0, y1⟩ := box2D W1 25 (.slice none 0 0) (.int .i64 0)
  have yB := alloc_below W1 (.cells #[.slice none 0 0, .int .i64 0] 25)
  have yL := alloc_lt W1 (.cells #[.slice none 0 0, .int .i64 0] 25)
  have yS : (W1.alloc (.cells #[.slice none 0 0, .int .i64 0] 25)).heap.size = W1.heap.size + 1 := by simp
  generalize W1.alloc (.cells #[.slice none 0 0, .int .i64 0] 25) = W2 at *
  rw [uS] at y0 y1 yL yS
  rw [uS] at yF
  have u0' := (yB.cell uL).trans u0
  have u1' := (yB.cell uL).trans u1
  have uF' : ∀ o, W2.frozen? ⟨w.heap.size, o, none⟩ = false := fun o => (yB.frozen uL).trans (uF o)
  have uL' : w.heap.size < W2.heap.size := Nat.lt_of_lt_of_le uL yB.size
  have HU := hidP uB
  have HY := hidP yB
  have HS12 := hidP (And.intro uS yS)
  clear uB yB uS yS u0 u1 uF uL
  refine (HC.out _ (HU.out.trans (HY.out.mono HU.out.size))).mono ?_
  rintro e w3 ⟨a3, c3, rfl, og3, hb3⟩
  have z0 := (hb3.cell uL').trans u0'
  have z1 := (hb3.cell uL').trans u1'
  have zF : ∀ o, w3.frozen? ⟨w.heap.size, o, none⟩ = false := fun o => (hb3.frozen uL').trans (uF' o)
  have r0 := (hb3.cell yL).trans y0
  have r1 := (hb3.cell yL).trans y1
  have rF : ∀ o, w3.frozen? ⟨w.heap.size + 1, o, none⟩ = false := fun o => (hb3.frozen yL).trans (yF o)
  have OG := hidP og3
  have B3 := hidP (HU.out.trans ((HY.out.trans (hb3.mono HY.out.size)).mono HU.out.size))
  clear og3 hb3 u0' u1' uF' y0 y1 yF
  go_wp2_with fail
  refine bodyPost_ret (v := .agg #[.slice a3 n c3, .int .i64 N]) (by simp [results, Try.results30, go_sem, r0, r1]) rfl ⟨a3, c3, rfl, ?_, ?_⟩
  · have ne : ∀ x : Nat, x < W2.heap.size → ∀ k, (Value.slice a3 n c3).ownBlock = some k → some x ≠ some k := fun x hx => OG.out.ne_of hx
    refine OwnG.mono (B := W2.heap.size) ?_ (by have := HS12.out; omega)
    iterate 3 (with_reducible refine OwnG.grown ?_ (grown_cellG _ _ _ _) ?_; rotate_left; (focus (exact ne _ (by have := HS12.out; omega))))
    with_reducible exact OG.out
  · repeat (with_reducible refine Below.setCell ?_ ?_ _; rotate_left; (focus (first | (simp; done) | (simp; omega))))
    exact B3.out

set_option maxRecDepth 10000 in
set_option maxHeartbeats 4000000 in
theorem l11Copy_any (a : Option Addr) (n c : Nat) (N : Int) (ls : List Int) (w : World) (hn : n = ls.length) (hB : RowG KBy w a ls) (hc : a = none → c = 0) (hl : n ≤ 1048576) :
    Calls Try.prog 33 #[.agg #[.slice a n c, .int .i64 N]] w fun e w' => ∃ a' c', e = .returned (.agg #[.slice a' n c', .int .i64 N]) ∧ OwnG KBy 5 w' w.heap.size (.slice a' n c') ls ∧ Below w.heap.size w w' := by
  have HR := hidP hB
  have HN := hidP hn
  have HC := hidP hc
  clear hB hn hc
  go_enter Try.func33, Try.ntmps33
  go_wp2_with fail
  have uF := frz2 w 25 (.slice a n c) (.int .i64 N)
  obtain ⟨u0, u1⟩ := box2D w 25 (.slice a n c) (.int .i64 N)
  have uB := alloc_below w (.cells #[.slice a n c, .int .i64 N] 25)
  have uL := alloc_lt w (.cells #[.slice a n c, .int .i64 N] 25)
  have uS : (w.alloc (.cells #[.slice a n c, .int .i64 N] 25)).heap.size = w.heap.size + 1 := by simp
  generalize w.alloc (.cells #[.slice a n c, .int .i64 N] 25) = W1 at *
  have yF := frz2 W1 25 (.slice none 0 0) (.int .i64 0)
  obtain ⟨y0, y1⟩ := box2D W1 25 (.slice none 0 0) (.int .i64 0)
  have yB := alloc_below W1 (.cells #[.slice none 0 0, .int .i64 0] 25)
  have yL := alloc_lt W1 (.cells #[.slice none 0 0, .int .i64 0] 25)
  have yS : (W1.alloc (.cells #[.slice none 0 0, .int .i64 0] 25)).heap.size = W1.heap.size + 1 := by simp
  generalize W1.alloc (.cells #[.slice none 0 0, .int .i64 0] 25) = W2 at *
  rw [uS] at y0 y1 yL yS
  rw [uS] at yF
  have u0' := (yB.cell uL).trans u0
  have u1' := (yB.cell uL).trans u1
  have uF' : ∀ o, W2.frozen? ⟨w.heap.size, o, none⟩ = false := fun o => (yB.frozen uL).trans (uF o)
  have uL' : w.heap.size < W2.heap.size := Nat.lt_of_lt_of_le uL yB.size
  have HU := hidP uB
  have HY := hidP yB
  have HS12 := hidP (And.intro uS yS)
  clear uB yB uS yS u0' u1' uF' uL' uF
  have HSx : Hid (∀ x, Below W1.heap.size W1 x → (x.cell? ⟨w.heap.size, 0, none⟩ = some (.slice a n c) ∧ x.cell? ⟨w.heap.size, 1, none⟩ = some (.int .i64 N) ∧ Below W1.heap.size W1 x)) := hidP fun x h =>
    ⟨(h.cell uL).trans u0, (h.cell uL).trans u1, h⟩
  refine wp_region_held_drew (S := (fun x => x.cell? ⟨w.heap.size, 0, none⟩ = some (.slice a n c) ∧ x.cell? ⟨w.heap.size, 1, none⟩ = some (.int .i64 N) ∧ Below W1.heap.size W1 x)) (by kernel_rfl) ?_ (fun hHeld => ?_)
  · try dsimp only
    exact HSx.out _ (HY.out.drew)
  refine wpAnyH_take (i := 1) (oi := ⟨some 4, _, _, _, _, _⟩) (v := ?_) rfl (by kernel_rfl) (by kernel_rfl) (by kernel_rfl) (fun _ _ _ h => h) (Or.inl ⟨by rfl, ?_⟩) (by assumption) ?_
  rotate_left
  · intro w hSw
    try dsimp only at hSw
    go_simp
    try with_reducible rfl
  simp only [Act.put, List.setIfInBounds_toArray, List.set_cons_zero, List.set_cons_succ]
  refine wpAnyH_take (i := 2) (oi := ⟨some 5, _, _, _, _, _⟩) (v := ?_) rfl (by kernel_rfl) (by kernel_rfl) (by kernel_rfl) (fun _ _ _ h => h) (Or.inl ⟨by rfl, ?_⟩) (by assumption) ?_
  rotate_left
  · intro w hSw
    try dsimp only at hSw
    go_simp
    try with_reducible rfl
  simp only [Act.put, List.setIfInBounds_toArray, List.set_cons_zero, List.set_cons_succ]
  refine wpAnyH_take (i := 4) (oi := ⟨some 7, _, _, _, _, _⟩) (v := ?_) rfl (by kernel_rfl) (by kernel_rfl) (by kernel_rfl) (fun _ _ _ h => h) (Or.inl ⟨by rfl, ?_⟩) (by assumption) ?_
  rotate_left
  · intro w hSw
    try dsimp only at hSw
    go_simp
    try with_reducible rfl
  simp only [Act.put, List.setIfInBounds_toArray, List.set_cons_zero, List.set_cons_succ]
  refine wpAnyH_take (i := 5) (oi := ⟨some 8, _, _, _, _, _⟩) (v := ?_) rfl (by kernel_rfl) (by kernel_rfl) (by kernel_rfl) (fun _ _ _ h => h) (Or.inl ⟨by rfl, ?_⟩) (by assumption) ?_
  rotate_left
  · intro w hSw
    try dsimp only at hSw
    go_simp
    try with_reducible rfl
  simp only [Act.put, List.setIfInBounds_toArray, List.set_cons_zero, List.set_cons_succ]
  refine wpAnyH_ready (rs := [0]) (by kernel_rfl) (by simp) ?_
  refine AllReadyH.cons rfl (fun K hK => ?_) AllReadyH.nil
  go_simp
  have z3 := own_zeroG KBy W2 W2.heap.size 5 (Nat.le_refl _)
  have zb3 := alloc_below W2 (.cells #[] 5)
  have zs3 : W2.heap.size + 1 ≤ (W2.alloc (.cells #[] 5)).heap.size := by simp
  have z3 := OwnG.drewG z3
  have zb3 := zb3.drew
  have zs3 : W2.heap.size + 1 ≤ (W2.alloc (.cells #[] 5)).drew.heap.size := zs3
  have bel3 := HY.out.trans (zb3.mono HY.out.size)
  generalize (W2.alloc (.cells #[] 5)).drew = w3 at *
  refine hK.out _ _ ?_ (fun hHeld => ?_)
  · try dsimp only
    exact HSx.out _ bel3
  clear hK K
  refine wpAnyH_ready (rs := [3]) (by kernel_rfl) (by simp) ?_
  refine AllReadyH.cons rfl (fun K hK => ?_) AllReadyH.nil
  have hbs4 : W2.heap.size ≤ w3.heap.size := by omega
  refine step_appG Try.tyBy _ rfl (.tmp 3) (.tmp 5) 22 rfl (W2.heap.size) (some ⟨W2.heap.size, 0, none⟩) 0 0 n [] ls (.slice a n c) rfl rfl HN.out z3 rfl (src_rowG Try.tyBy.1 n c (by show 0 < 1; omega) HN.out (HR.out.later (HU.out.trans (bel3.mono HU.out.size))) HC.out) (by omega) hbs4 ?_
  intro a4 c4 w4 ho4 hg4 ht4
  have zs4 := hg4.size
  have bel4 := Below.grown bel3 hg4 bel3.size (fun j hj => by rw [ob_some, Option.some.injEq] at hj; have := HS12.out; omega)
  rw [Nat.zero_add, List.nil_append] at ho4
  have wb4 := Below.grown zb3 hg4 zb3.size (fun j hj => by rw [ob_some, Option.some.injEq] at hj; omega)
  refine hK.out _ _ ?_ (fun hHeld => ?_)
  · try dsimp only
    exact HSx.out _ bel4
  clear hK K
  refine wpAnyH_take (i := 6) (oi := ⟨some 9, _, _, _, _, _⟩) (v := ?_) rfl (by kernel_rfl) (by kernel_rfl) (by kernel_rfl) (fun _ _ _ h => h) (Or.inl ⟨by rfl, ?_⟩) (by assumption) ?_
  rotate_left
  · intro w hSw
    try dsimp only at hSw
    go_simp
    try with_reducible rfl
  simp only [Act.put, List.setIfInBounds_toArray]
  have zz : w.heap.size + 1 < w4.heap.size := by have := HS12.out; omega
  have r0 := (wb4.cell yL).trans y0
  have r1 := (wb4.cell yL).trans y1
  have rF : ∀ o, w4.frozen? ⟨w.heap.size + 1, o, none⟩ = false := fun o => (wb4.frozen yL).trans (yF o)
  refine wpAnyH_ready (rs := [7]) (by kernel_rfl) (by simp) ?_
  refine AllReadyH.cons rfl (fun K hK => ?_) AllReadyH.nil
  go_simp
  refine hK.out _ _ ?_ (fun hHeld => ?_)
  · try dsimp only
    refine HSx.out _ ?_
    repeat (with_reducible refine Below.setCell ?_ ?_ _; rotate_left; (focus (have := HS12.out; simp; omega)))
    exact bel4
  clear hK K
  have HE := hidP (hHeld.2.2)
  refine wpAnyH_done (by kernel_rfl) ?_ _
  clear hHeld
  go_wp2_with fail
  refine bodyPost_ret (v := .agg #[.slice a4 n c4, .int .i64 N]) (by simp [results, Try.results33, go_sem, r0, r1]) rfl ⟨a4, c4, rfl, ?_, ?_⟩
  · have ne : ∀ x : Nat, x < W2.heap.size → ∀ k, (Value.slice a4 n c4).ownBlock = some k → some x ≠ some k := fun x hx => ho4.ne_of hx
    refine OwnG.mono (B := W2.heap.size) ?_ (by have := HS12.out; omega)
    iterate 2 (with_reducible refine OwnG.grown ?_ (grown_cellG _ _ _ _) ?_; rotate_left; (focus (exact ne _ (by have := HS12.out; omega))))
    with_reducible exact ho4
  · exact HU.out.trans (HE.out.mono HU.out.size)

set_option maxHeartbeats 2000000 in
theorem sureFile_any (a : Option Addr) (n c : Nat) (zs : List Int) (w : World) (hn : n = zs.length) (hB : RowG KBy w a zs) (hl : n ≤ 1048576) :
    Calls Try.prog 29 #[.slice a n c] w fun e w' => ∃ a' c', e = .returned (.agg #[.slice a' n c', .int .i64 n]) ∧ OwnG KBy 5 w' w.heap.size (.slice a' n c') zs ∧ Below w.heap.size w w' := by
  have HC := hidP (fun W h => ownFile_any a n c n zs W hn (hB.later h) hl)
  clear hB hn
  go_enter Try.func29, Try.ntmps29
  go_wp2_with fail
  have yF := frz2 w 25 (.slice none 0 0) (.int .i64 0)
  obtain ⟨y0, y1⟩ := box2D w 25 (.slice none 0 0) (.int .i64 0)
  have yB := alloc_below w (.cells #[.slice none 0 0, .int .i64 0] 25)
  have yL := alloc_lt w (.cells #[.slice none 0 0, .int .i64 0] 25)
  generalize w.alloc (.cells #[.slice none 0 0, .int .i64 0] 25) = W1 at *
  have HY := hidP yB
  have HL := hidP yL
  clear yB
  refine (HC.out _ HY.out).mono ?_
  rintro e w3 ⟨a3, c3, rfl, og3, hb3⟩
  have r0 := (hb3.cell yL).trans y0
  have r1 := (hb3.cell yL).trans y1
  have rF : ∀ o, w3.frozen? ⟨w.heap.size, o, none⟩ = false := fun o => (hb3.frozen yL).trans (yF o)
  have OG := hidP og3
  have B3 := hidP (HY.out.trans (hb3.mono HY.out.size))
  clear og3 hb3 y0 y1 yF
  go_wp2_with fail
  refine bodyPost_ret (v := .agg #[.slice a3 n c3, .int .i64 n]) (by simp [results, Try.results29, go_sem, r0, r1]) rfl ⟨a3, c3, rfl, ?_, ?_⟩
  · have ne : ∀ x : Nat, x < W1.heap.size → ∀ k, (Value.slice a3 n c3).ownBlock = some k → some x ≠ some k := fun x hx => OG.out.ne_of hx
    refine OwnG.mono (B := W1.heap.size) ?_ (by have := HL.out; omega)
    iterate 2 (with_reducible refine OwnG.grown ?_ (grown_cellG _ _ _ _) ?_; rotate_left; (focus (exact ne _ (by have := HL.out; omega))))
    with_reducible exact OG.out
  · repeat (with_reducible refine Below.setCell ?_ ?_ _; rotate_left; (focus (first | (simp; done) | (simp; omega))))
    exact B3.out

end Go.Proofs.Ytfhlplpiojhhmaa
