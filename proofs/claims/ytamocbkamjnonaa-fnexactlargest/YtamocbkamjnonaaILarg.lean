/-
  The program's Largest: of what leftOf hands out the first with the fewest bits, or none.
-/
import Derived.Test.YtamocbkamjnonaaIRoom
namespace Go.Proofs.Ytamocbkamjnonaa
open Go.RowKit

attribute [local go_sem] Oper.semAt_some

theorem wpIn_np {F : Fence} {n : Nat} {P : Program} {c : Code} {K : Act → World → Prop} {N : Exit → Act → World → Prop} {a : Act} {w : World} (h : c.wpIn F n P (Exit.then K (fun _ _ _ => False)) a w) : c.wpIn F n P (Exit.then K N) a w :=
  wpIn_mono h (by intro e a w hq; cases e <;> first | exact hq | exact hq.elim)

def lgStep (o : Option Sp) (x : Sp) : Option Sp := match o with
  | none => some x
  | some y => if ((wd x.s : Int) - x.n) < ((wd y.s : Int) - y.n) then some x else some y
def lgs (ys : List Sp) : Option Sp := ys.foldl lgStep none
theorem lgs_snoc (ys : List Sp) (x : Sp) : lgs (ys ++ [x]) = lgStep (lgs ys) x := by unfold lgs; rw [List.foldl_append]; rfl
def lgP : Option Sp → Pf
  | none => ⟨false, 0, 0, 0⟩
  | some y => y.pre
theorem bel_v {w w7 V : World} {M M' : Nat → Prop} (hb : Below w.heap.size w w7) (hg : Grw M M' w7 V) (hM : ∀ k, M k → w.heap.size ≤ k) : Below w.heap.size w V := by
  have hz := hb.size
  exact ⟨hg.kept.os.trans hb.os, hg.kept.tape.trans hb.tape, hg.kept.output.trans hb.output, by have := hg.kept.size; omega, fun k hk => (hg.kept.block k (by omega) fun h => by have := hM k h; omega).trans (hb.block k hk)⟩
def lgM (s : Nat) (k : Nat) : Prop := k = s + 2 ∨ k = s + 3

set_option maxRecDepth 10000 in
set_option maxHeartbeats 2000000 in
theorem iLarg (p : Pf) (a : Option Addr) (n cap : Nat) (w : World) (ys : List Sp) (hP : LeftGives p a n cap w ys) :
    Calls Try.prog 31 #[.agg #[.bool p.s, .int .i64 p.H.toInt, .int .i64 p.L.toInt, .int .i64 p.b], .slice a n cap] w fun e w' => e = .returned (.tuple #[.agg #[.bool (lgP (lgs ys)).s, .int .i64 (lgP (lgs ys)).H.toInt, .int .i64 (lgP (lgs ys)).L.toInt, .int .i64 (lgP (lgs ys)).b], .bool (lgs ys).isSome]) ∧ Below w.heap.size w w' := by
  have HP := hidP hP
  clear hP
  refine (callsIn_wide (n := 9)).1 (callsIn_of_wp_marks Try.func31 rfl trivial ?_ rfl)
  simp only [Try.ntmps31, List.size_toArray, List.length_cons, List.length_nil, Nat.reduceAdd, Nat.reduceSub, Array.replicate_succ, Array.replicate_zero, List.push_toArray, List.append_toArray, List.nil_append, List.cons_append]
  gi_wp2
  refine ⟨trivial, (callsIn_wide.2 (leftOf_any p a n cap _)).mono ?_⟩
  rintro e w7 ⟨rfl, hw7⟩
  obtain ⟨os, hos⟩ : ∃ os : List Obj, os = [.cells #[.bool p.s, .int .i64 p.H.toInt, .int .i64 p.L.toInt, .int .i64 p.b] 37, .cells #[.bool false, .int .i64 0, .int .i64 0, .int .i64 0] 37, .cells #[.bool false, .int .i64 0, .int .i64 0, .int .i64 0] 37, .cells #[.bool false] 4, .cells #[.bool p.s, .int .i64 p.H.toInt, .int .i64 p.L.toInt, .int .i64 p.b] 37, .cells #[.slice a n cap] 24] := ⟨_, rfl⟩
  have hw : w7 = allocs w os := by rw [hos]; exact hw7
  have hz : w7.heap.size = w.heap.size + 6 := by rw [hw, allocs_size, hos]; rfl
  have hb : Below w.heap.size w w7 := by rw [hw]; exact allocs_below os w
  have hat : ∀ i o, os[i]? = some o → w7.heap[w.heap.size + i]? = some o := by rw [hw]; exact allocs_at os w
  subst hos
  have h1 := hat 1 _ rfl
  have h2 := hat 2 _ rfl
  have h3 := hat 3 _ rfl
  have h4 := hat 4 _ rfl
  have h5 := hat 5 _ rfl
  have HB := hidP hb
  have H1 := hidP h1
  have H2 := hidP h2
  have H3 := hidP h3
  have HIt := hidP (HP.out w7 (w.heap.size + 4) (w.heap.size + 5) hb (of4 h4).1 (of1 h5).1 (by omega) (by omega))
  clear hw7 hw hat hb h1 h2 h3 h4 h5
  gi_wp2
  refine wp_range (gf := 69) (lb := #[.pointer (some ⟨w.heap.size + 4, 0, none⟩), .pointer (some ⟨w.heap.size + 5, 0, none⟩)]) rfl (enters_of Try.func69 (by kernel_rfl) rfl) HIt.out (fun _ => rfl) (fun k h => by omega)
    (fun pre M V => M = lgM w.heap.size ∧ V.heap[w.heap.size + 2]? = some (.cells #[.bool (lgP (lgs pre)).s, .int .i64 (lgP (lgs pre)).H.toInt, .int .i64 (lgP (lgs pre)).L.toInt, .int .i64 (lgP (lgs pre)).b] 37) ∧ V.heap[w.heap.size + 3]? = some (.cells #[.bool (lgs pre).isSome] 4))
    (fun _ _ _ _ => False)
    (fun pre M A B h hk => ?hI) (fun c pre M A B h hk => h.elim) (lgM w.heap.size) (fun k h => by unfold lgM at h; omega) (fun k h hm => by unfold lgM at hm; omega) ⟨rfl, H2.out, H3.out⟩ ?round ?done ?stop
  case hI =>
    obtain ⟨rfl, h2, h3⟩ := h
    exact ⟨rfl, hk.at (Or.inl rfl) h2, hk.at (Or.inr rfl) h3⟩
  case stop =>
    intro D c pre M1 V _ _ _ _ h
    exact h.elim
  case done =>
    rintro D M1 V hD hDl hMD ⟨rfl, h2, h3⟩ hg hK
    obtain ⟨q, hq⟩ : ∃ q, q = lgP (lgs ys) := ⟨_, rfl⟩
    obtain ⟨bo, hbo⟩ : ∃ bo, bo = (lgs ys).isSome := ⟨_, rfl⟩
    rw [← hq] at h2
    rw [← hbo] at h3
    have HQ := hidP hq
    have HBo := hidP hbo
    have h1 : V.heap[w.heap.size + 1]? = some (.cells #[.bool false, .int .i64 0, .int .i64 0, .int .i64 0] 37) := (hg.kept.block (w.heap.size + 1) (by omega) (fun h => by unfold lgM at h; omega)).trans H1.out
    obtain ⟨⟨v0, v1, v2, v3⟩, f0, f1, f2, f3⟩ := of4 h1
    obtain ⟨⟨y0, y1, y2, y3⟩, _⟩ := of4 h2
    have y4 := (of1 h3).1
    have lz1 := lt_heap h1
    have lz2 := lt_heap h2
    have lz3 := lt_heap h3
    have hbV : Below w.heap.size w V := bel_v HB.out hg (fun k h => by unfold lgM at h; omega)
    have HS4 : Hid (∀ V' : World, V'.heap = V.heap → ((((V'.setCell ⟨w.heap.size + 1, 0, none⟩ (.bool q.s)).setCell ⟨w.heap.size + 1, 1, none⟩ (.int .i64 q.H.toInt)).setCell ⟨w.heap.size + 1, 2, none⟩ (.int .i64 q.L.toInt)).setCell ⟨w.heap.size + 1, 3, none⟩ (.int .i64 q.b)).heap[w.heap.size + 1]? = some (.cells #[.bool q.s, .int .i64 q.H.toInt, .int .i64 q.L.toInt, .int .i64 q.b] 37)) := hidP fun V' e => set4 (by rw [e]; exact h1)
    have HK9 : Hid (∀ V' : World, V'.heap = V.heap → ((((V'.setCell ⟨w.heap.size + 1, 0, none⟩ (.bool q.s)).setCell ⟨w.heap.size + 1, 1, none⟩ (.int .i64 q.H.toInt)).setCell ⟨w.heap.size + 1, 2, none⟩ (.int .i64 q.L.toInt)).setCell ⟨w.heap.size + 1, 3, none⟩ (.int .i64 q.b)).heap[D]? = some (.deferred (some []))) := hidP fun V' e => setO (show D ≠ w.heap.size + 1 by omega) (setO (show D ≠ w.heap.size + 1 by omega) (setO (show D ≠ w.heap.size + 1 by omega) (setO (show D ≠ w.heap.size + 1 by omega) (by rw [e]; exact hK))))
    have HBV := hidP hbV
    clear h1 h2 h3 hg hK hq hbo hbV
    gi_wp2
    refine wpIn_np (wpIn_wide.2 ?_)
    refine wp_region_held_drew (S := (fun X => X.cell? ⟨w.heap.size + 2, 0, none⟩ = some (.bool q.s) ∧ X.cell? ⟨w.heap.size + 2, 1, none⟩ = some (.int .i64 q.H.toInt) ∧ X.cell? ⟨w.heap.size + 2, 2, none⟩ = some (.int .i64 q.L.toInt) ∧ X.cell? ⟨w.heap.size + 2, 3, none⟩ = some (.int .i64 q.b) ∧ X.cell? ⟨w.heap.size + 3, 0, none⟩ = some (.bool bo))) (by kernel_rfl) ?_ (fun hHeld => ?_)
    · exact ⟨y0, y1, y2, y3, y4⟩
    refine wpAnyH_take (i := 0) (oi := ⟨some 24, _, _, _, _, _⟩) (v := ?_) rfl (by kernel_rfl) (by kernel_rfl) (by kernel_rfl) (fun _ _ _ h => h) (Or.inl ⟨by rfl, ?_⟩) (by assumption) ?_
    rotate_left
    · intro w hSw
      try dsimp only at hSw
      go_simp
      try with_reducible rfl
    simp only [Act.put, List.setIfInBounds_toArray, List.set_cons_zero, List.set_cons_succ]
    refine wpAnyH_take (i := 1) (oi := ⟨some 25, _, _, _, _, _⟩) (v := ?_) rfl (by kernel_rfl) (by kernel_rfl) (by kernel_rfl) (fun _ _ _ h => h) (Or.inl ⟨by rfl, ?_⟩) (by assumption) ?_
    rotate_left
    · intro w hSw
      try dsimp only at hSw
      go_simp
      try with_reducible rfl
    simp only [Act.put, List.setIfInBounds_toArray, List.set_cons_zero, List.set_cons_succ]
    refine wpAnyH_ready (rs := [2]) (by kernel_rfl) (by simp) ?_
    refine AllReadyH.cons rfl (fun K hK => ?_) AllReadyH.nil
    go_simp
    refine hK.out _ _ ?_ (fun hHeld => ?_)
    · try dsimp only
      first | (simp [go_sem, y0, y1, y2, y3, y4]; done) | trace_state
    clear hK K
    refine wpAnyH_take (i := 3) (oi := ⟨some 5, _, _, _, _, _⟩) (v := ?_) rfl (by kernel_rfl) (by kernel_rfl) (by kernel_rfl) (fun _ _ _ h => h) (Or.inl ⟨by rfl, ?_⟩) (by assumption) ?_
    rotate_left
    · intro w hSw
      try dsimp only at hSw
      go_simp
      try with_reducible rfl
    simp only [Act.put, List.setIfInBounds_toArray, List.set_cons_zero, List.set_cons_succ]
    refine wpAnyH_done (by kernel_rfl) ?_ _
    gi_wp2
    refine ⟨by simp, .inl ⟨_, _, rfl, run_takeDeferred (HK9.out V rfl), ?_⟩⟩
    obtain ⟨⟨g0, g1, g2, g3⟩, _⟩ := of4 ((World.putObj_heap_other (w := ((((V.setCell ⟨w.heap.size + 1, 0, none⟩ (.bool q.s)).setCell ⟨w.heap.size + 1, 1, none⟩ (.int .i64 q.H.toInt)).setCell ⟨w.heap.size + 1, 2, none⟩ (.int .i64 q.L.toInt)).setCell ⟨w.heap.size + 1, 3, none⟩ (.int .i64 q.b)).drew) (o := .deferred none) (show w.heap.size + 1 ≠ D by omega)).trans (HS4.out V rfl))
    refine ⟨.tuple #[.agg #[.bool q.s, .int .i64 q.H.toInt, .int .i64 q.L.toInt, .int .i64 q.b], .bool bo], by simp [results, Try.results31, go_sem, g0, g1, g2, g3], by rw [HQ.out, HBo.out], ?_⟩
    exact ((((HBV.out.setCell (p := ⟨w.heap.size + 1, 0, none⟩) (Nat.le_succ _) _).setCell (p := ⟨w.heap.size + 1, 1, none⟩) (Nat.le_succ _) _).setCell (p := ⟨w.heap.size + 1, 2, none⟩) (Nat.le_succ _) _).setCell (p := ⟨w.heap.size + 1, 3, none⟩) (Nat.le_succ _) _).drew.trans (belowK_b (w := w) (Nat.le_refl _) _ D _ _ (by omega) (HK9.out V rfl) rfl rfl)
  case round =>
    intro l' pre x M1 V _ hf hl' _ hlt hpre
    unfold encP
    refine rnd_of ?_
    intro K' HK'
    have HF0 := hidP hf
    clear hf hl' hpre
    gi_wp2
    refine HK'.out _ _ ⟨(Below.refl _ V).alloc (Nat.le_refl _) _, ?_⟩
    clear HK'
    rintro V2 hk2 hs2 ⟨rfl, h2, h3⟩
    obtain ⟨x0, x1, x2, x3⟩ := box_cells V 37 x.pre
    have lV : V.heap.size < (V.alloc (.cells #[.bool x.s, .int .i64 x.H.toInt, .int .i64 x.L.toInt, .int .i64 ((wd x.s : Int) - x.n)] 37)).heap.size := by simp
    have nV : V.heap.size ≠ l' := by omega
    have y0 := (hk2.cell (p := ⟨V.heap.size, 0, none⟩) lV nV).trans x0
    have y1 := (hk2.cell (p := ⟨V.heap.size, 1, none⟩) lV nV).trans x1
    have y2 := (hk2.cell (p := ⟨V.heap.size, 2, none⟩) lV nV).trans x2
    have y3 := (hk2.cell (p := ⟨V.heap.size, 3, none⟩) lV nV).trans x3
    have hVs : V.heap.size < V2.heap.size := by rw [hs2]; exact lV
    dsimp only [Sp.pre] at y0 y1 y2 y3
    have fit2 : ∀ k, lgM w.heap.size k → k < V2.heap.size := fun k h => by have := HF0.out k h; omega
    have HG : Hid (Grw (lgM w.heap.size) (lgM w.heap.size) V2 (((((V2.setCell ⟨w.heap.size + 2, 0, none⟩ (.bool x.s)).setCell ⟨w.heap.size + 2, 1, none⟩ (.int .i64 x.H.toInt)).setCell ⟨w.heap.size + 2, 2, none⟩ (.int .i64 x.L.toInt)).setCell ⟨w.heap.size + 2, 3, none⟩ (.int .i64 ((wd x.s : Int) - x.n))).setCell ⟨w.heap.size + 3, 0, none⟩ (.bool true))) :=
      hidP (((((Grw.refl fit2).set _ _ (Or.inl rfl)).set _ _ (Or.inl rfl)).set _ _ (Or.inl rfl)).set _ _ (Or.inl rfl) |>.set _ _ (Or.inr rfl))
    have HG0 := hidP (Grw.refl fit2)
    have E2 := hidP (setO (k := w.heap.size + 2) (p := ⟨w.heap.size + 3, 0, none⟩) (u := .bool true) (show w.heap.size + 2 ≠ w.heap.size + 3 by omega) (set4 (a' := .bool x.s) (b' := .int .i64 x.H.toInt) (c' := .int .i64 x.L.toInt) (d' := .int .i64 ((wd x.s : Int) - x.n)) h2))
    have E3 := hidP (set1 (u := .bool true) (setO (p := ⟨w.heap.size + 2, 3, none⟩) (u := .int .i64 ((wd x.s : Int) - x.n)) (show w.heap.size + 3 ≠ w.heap.size + 2 by omega) (setO (p := ⟨w.heap.size + 2, 2, none⟩) (u := .int .i64 x.L.toInt) (show w.heap.size + 3 ≠ w.heap.size + 2 by omega) (setO (p := ⟨w.heap.size + 2, 1, none⟩) (u := .int .i64 x.H.toInt) (show w.heap.size + 3 ≠ w.heap.size + 2 by omega) (setO (p := ⟨w.heap.size + 2, 0, none⟩) (u := .bool x.s) (show w.heap.size + 3 ≠ w.heap.size + 2 by omega) h3)))))
    have EN := hidP (lgs_snoc pre x)
    have H2 := hidP h2
    have H3 := hidP h3
    have lz2 := lt_heap h2
    have lz3 := lt_heap h3
    clear hk2 hs2 h2 h3 x0 x1 x2 x3 lV nV fit2
    generalize lgs pre = o at *
    cases o with
    | none =>
      obtain ⟨⟨v0, v1, v2, v3⟩, f0, f1, f2, f3⟩ := of4 H2.out
      obtain ⟨v4, f4⟩ := of1 H3.out
      dsimp only [Option.isSome, lgP] at v0 v1 v2 v3 v4
      have HF : Hid (∃ M', (M' = lgM w.heap.size ∧ (((((V2.setCell ⟨w.heap.size + 2, 0, none⟩ (.bool x.s)).setCell ⟨w.heap.size + 2, 1, none⟩ (.int .i64 x.H.toInt)).setCell ⟨w.heap.size + 2, 2, none⟩ (.int .i64 x.L.toInt)).setCell ⟨w.heap.size + 2, 3, none⟩ (.int .i64 ((wd x.s : Int) - x.n))).setCell ⟨w.heap.size + 3, 0, none⟩ (.bool true)).heap[w.heap.size + 2]? = some (.cells #[.bool (lgP (lgs (pre ++ [x]))).s, .int .i64 (lgP (lgs (pre ++ [x]))).H.toInt, .int .i64 (lgP (lgs (pre ++ [x]))).L.toInt, .int .i64 (lgP (lgs (pre ++ [x]))).b] 37) ∧ (((((V2.setCell ⟨w.heap.size + 2, 0, none⟩ (.bool x.s)).setCell ⟨w.heap.size + 2, 1, none⟩ (.int .i64 x.H.toInt)).setCell ⟨w.heap.size + 2, 2, none⟩ (.int .i64 x.L.toInt)).setCell ⟨w.heap.size + 2, 3, none⟩ (.int .i64 ((wd x.s : Int) - x.n))).setCell ⟨w.heap.size + 3, 0, none⟩ (.bool true)).heap[w.heap.size + 3]? = some (.cells #[.bool (lgs (pre ++ [x])).isSome] 4)) ∧ Grw (lgM w.heap.size) M' V2 (((((V2.setCell ⟨w.heap.size + 2, 0, none⟩ (.bool x.s)).setCell ⟨w.heap.size + 2, 1, none⟩ (.int .i64 x.H.toInt)).setCell ⟨w.heap.size + 2, 2, none⟩ (.int .i64 x.L.toInt)).setCell ⟨w.heap.size + 2, 3, none⟩ (.int .i64 ((wd x.s : Int) - x.n))).setCell ⟨w.heap.size + 3, 0, none⟩ (.bool true))) :=
        hidP ⟨lgM w.heap.size, ⟨rfl, by rw [EN.out]; exact E2.out, by rw [EN.out]; exact E3.out⟩, HG.out⟩
      clear E2 E3 HG
      gi_wp2
      exact HF.out
    | some y =>
      obtain ⟨⟨v0, v1, v2, v3⟩, f0, f1, f2, f3⟩ := of4 H2.out
      obtain ⟨v4, f4⟩ := of1 H3.out
      dsimp only [Option.isSome, lgP, Sp.pre] at v0 v1 v2 v3 v4
      cases hr : decide (((wd x.s : Int) - x.n) < ((wd y.s : Int) - y.n))
      · have EN2 : lgs (pre ++ [x]) = some y := by rw [EN.out]; show (if _ then _ else _) = _; rw [if_neg (of_decide_eq_false hr)]
        have HF : Hid (∃ M', (M' = lgM w.heap.size ∧ V2.heap[w.heap.size + 2]? = some (.cells #[.bool (lgP (lgs (pre ++ [x]))).s, .int .i64 (lgP (lgs (pre ++ [x]))).H.toInt, .int .i64 (lgP (lgs (pre ++ [x]))).L.toInt, .int .i64 (lgP (lgs (pre ++ [x]))).b] 37) ∧ V2.heap[w.heap.size + 3]? = some (.cells #[.bool (lgs (pre ++ [x])).isSome] 4)) ∧ Grw (lgM w.heap.size) M' V2 V2) :=
          hidP ⟨lgM w.heap.size, ⟨rfl, by rw [EN2]; exact H2.out, by rw [EN2]; exact H3.out⟩, HG0.out⟩
        clear E2 E3 HG EN2
        gi_wp2
        exact HF.out
      · have EN2 : lgs (pre ++ [x]) = some x := by rw [EN.out]; show (if _ then _ else _) = _; rw [if_pos (of_decide_eq_true hr)]
        have HF : Hid (∃ M', (M' = lgM w.heap.size ∧ (((((V2.setCell ⟨w.heap.size + 2, 0, none⟩ (.bool x.s)).setCell ⟨w.heap.size + 2, 1, none⟩ (.int .i64 x.H.toInt)).setCell ⟨w.heap.size + 2, 2, none⟩ (.int .i64 x.L.toInt)).setCell ⟨w.heap.size + 2, 3, none⟩ (.int .i64 ((wd x.s : Int) - x.n))).setCell ⟨w.heap.size + 3, 0, none⟩ (.bool true)).heap[w.heap.size + 2]? = some (.cells #[.bool (lgP (lgs (pre ++ [x]))).s, .int .i64 (lgP (lgs (pre ++ [x]))).H.toInt, .int .i64 (lgP (lgs (pre ++ [x]))).L.toInt, .int .i64 (lgP (lgs (pre ++ [x]))).b] 37) ∧ (((((V2.setCell ⟨w.heap.size + 2, 0, none⟩ (.bool x.s)).setCell ⟨w.heap.size + 2, 1, none⟩ (.int .i64 x.H.toInt)).setCell ⟨w.heap.size + 2, 2, none⟩ (.int .i64 x.L.toInt)).setCell ⟨w.heap.size + 2, 3, none⟩ (.int .i64 ((wd x.s : Int) - x.n))).setCell ⟨w.heap.size + 3, 0, none⟩ (.bool true)).heap[w.heap.size + 3]? = some (.cells #[.bool (lgs (pre ++ [x])).isSome] 4)) ∧ Grw (lgM w.heap.size) M' V2 (((((V2.setCell ⟨w.heap.size + 2, 0, none⟩ (.bool x.s)).setCell ⟨w.heap.size + 2, 1, none⟩ (.int .i64 x.H.toInt)).setCell ⟨w.heap.size + 2, 2, none⟩ (.int .i64 x.L.toInt)).setCell ⟨w.heap.size + 2, 3, none⟩ (.int .i64 ((wd x.s : Int) - x.n))).setCell ⟨w.heap.size + 3, 0, none⟩ (.bool true))) :=
          hidP ⟨lgM w.heap.size, ⟨rfl, by rw [EN2]; exact E2.out, by rw [EN2]; exact E3.out⟩, HG.out⟩
        clear E2 E3 HG EN2
        gi_wp2
        exact HF.out

end Go.Proofs.Ytamocbkamjnonaa
