/-
  The specification's l12DrawAny and DrawPutGroup.
-/
import Derived.Test.YtnngbeoeocbofaaWDrG
namespace Go.Proofs.Ytnngbeoeocbofaa
open Go.RowKit

theorem own_twoI (w : World) (B : Nat) (x y : Int) (hB : B ≤ w.heap.size) : OwnG KI 3 (w.alloc (.cells #[.int .i64 x, .int .i64 y] 3)) B (.slice (some ⟨w.heap.size, 0, none⟩) 2 2) [x, y] :=
  ⟨rfl, Or.inr ⟨w.heap.size, 2, _, rfl, hB, heap_alloc_new w _, Nat.le_refl _, by unfold maxLen; omega, rfl, rfl⟩⟩

set_option maxRecDepth 10000 in
set_option maxHeartbeats 4000000 in
theorem l12DrawAny_any (c : Nat) (a : Option Addr) (len cap : Nat) (w : World) (hC : Cur w c a len cap) :
    Calls Try.prog 36 #[.pointer (some ⟨c, 0, none⟩)] w fun e w' => DrG w w' e 10 ∧ Cur w' c a len cap ∧ Kp c w w' := by
  have hc := hC.lt
  have H1 := hidP (show GdI w (w.alloc (.cells #[.slice none 0 0, .slice none 0 0] 26)) c a len cap from ⟨hC.more _, (Kp.refl _ _).more hc _, hc, by simp [go_sem], by simp [go_sem], fun o => by simp [go_sem], by simp⟩)
  clear hC
  go_enter Try.func36, Try.ntmps36
  go_wp2_with fail
  generalize w.alloc (.cells #[.slice none 0 0, .slice none 0 0] 26) = W1 at *
  refine (l12Draw_any c a len cap _ H1.out.cur).mono ?_
  rintro e w2 ⟨⟨a1, n1, c1, a2, n2, c2, ps, bs, rfl, hn1, hn2, hl1, hl2, ho1, ho2⟩, hC2, hK2⟩
  have H2 := hidP (H1.out.keep hC2 hK2)
  have HO1 := hidP (OwnG.mono ho1 (show w.heap.size + 1 ≤ W1.heap.size from H1.out.lt))
  have HO2 := hidP (OwnG.mono ho2 (show w.heap.size + 1 ≤ W1.heap.size from H1.out.lt))
  have HN := hidP (And.intro hn1 hn2)
  clear hC2 hK2 H1 ho1 ho2 hn1 hn2
  go_wp2_with fail
  have H3 := hidP (show GdB w (w2.alloc (.cells #[.slice a1 n1 c1, .slice a2 n2 c2] 26)) c a len cap w2.heap.size (.slice a1 n1 c1) (.slice a2 n2 c2) ps bs from by
    have zb := alloc_below w2 (.cells #[.slice a1 n1 c1, .slice a2 n2 c2] 26)
    exact ⟨H2.out.below zb, H2.out.lt, alloc_lt _ _, by simp [go_sem], by simp [go_sem], fun o => by simp [go_sem], HO1.out.later zb, HO2.out.later zb, fun k hk => Nat.ne_of_lt (OwnG.lt HO1.out k hk).2, fun k hk => Nat.ne_of_lt (OwnG.lt HO2.out k hk).2⟩)
  have HL4 := hidP H2.out.lt
  generalize w2.alloc (.cells #[.slice a1 n1 c1, .slice a2 n2 c2] 26) = W3 at *
  generalize w2.heap.size = E at *
  clear H2 HO1 HO2
  refine (l1Below_any c a len cap 14 _ H3.out.op.cur).mono ?_
  rintro e w4 ⟨⟨x, x0, x9, rfl⟩, hC4, hK4⟩
  have H4 := hidP (H3.out.keep hC4 hK4)
  clear hC4 hK4 H3 x9
  have hE := HL4.out
  have nA : ¬ (E = w.heap.size) := by omega
  have nB : ¬ (w.heap.size = E) := by omega
  have p0 := H4.out.d0
  have p1 := H4.out.d1
  have pF := H4.out.dF
  have pL := H4.out.hl
  have r0 := H4.out.op.r0
  have r1 := H4.out.op.r1
  have rF := H4.out.op.rF
  have rL := H4.out.op.lt
  by_cases hx0 : x = 0
  · subst hx0
    have z5 := own_zeroG KI w4 (w.heap.size + 1) 3 rL
    have H5 := hidP ((H4.out.below (alloc_below w4 (.cells #[] 3))).put0 z5 (fun k hk => by rw [ob_some, Option.some.injEq] at hk; omega))
    go_upto_region 9 with fail
    rw [← World.setCell_alloc_past _ E 0 _ pL]
    have q0 := H5.out.d0
    have q1 := H5.out.d1
    have s0 := H5.out.op.r0
    have s1 := H5.out.op.r1
    have sF := H5.out.op.rF
    generalize (w4.alloc (.cells #[] 3)).setCell ⟨E, 0, none⟩ (.slice (some ⟨w4.heap.size, 0, none⟩) 0 0) = W5 at *
    clear p0 p1 pF r0 r1 rF z5 H4
    go_wp2_with fail
    have hF := H5.out.fin (.slice (some ⟨w4.heap.size, 0, none⟩) 0 0) (.slice a2 n2 c2)
    exact bodyPost_ret (v := .agg #[.slice (some ⟨w4.heap.size, 0, none⟩) 0 0, .slice a2 n2 c2]) (by simp [results, Try.results36, go_sem, s0, s1]) rfl ⟨⟨_, 0, 0, a2, n2, c2, [], bs, rfl, rfl, HN.out.2, by omega, by omega, hF.1, hF.2.1⟩, hF.2.2⟩
  · have t0 : (x == 0) = false := by simp [hx0]
    by_cases hx1 : x = 1
    · subst hx1
      have z5 := own_zeroG KI w4 w4.heap.size 3 (Nat.le_refl _)
      have zb5 := alloc_below w4 (.cells #[] 3)
      have HZ := hidP (And.intro z5 zb5)
      have HS := hidP (src_rowG (P := Try.prog) (K := KI) Try.tyI.1 n1 c1 (by show 0 < 1; omega) HN.out.1 (H4.out.own.row.later zb5) (OwnG.caps H4.out.own).2.2.2)
      clear z5 zb5
      go_wp2_with (at_builtin; refine stp ?_)
      unfold Stp
      refine wpList_appG Try.tyI _ rfl (.tmp 14) (.tmp 16) 24 rfl w4.heap.size (some ⟨w4.heap.size, 0, none⟩) 0 0 n1 [] ps (.slice a1 n1 c1) rfl rfl HN.out.1 HZ.out.1 rfl HS.out (by omega) (by simp) ?_
      intro a5 c5 w5 ho5 hg5 ht5
      rw [Nat.zero_add, List.nil_append] at ho5
      have hx5 := below_appG HZ.out.2 HZ.out.1 (by simp) hg5
      have H5 := hidP (H4.out.below hx5)
      have HO5 := hidP (And.intro ho5 hx5.size)
      have HX5 := hidP hx5
      clear ho5 hg5 ht5 hx5 HZ HS
      have HQ := hidP (own_oneI w5 1)
      go_wp2_with (at_builtin; refine stp ?_)
      unfold Stp
      refine wpList_appG Try.tyI _ rfl (.tmp 17) (.tmp 18) 24 rfl w4.heap.size a5 n1 c5 1 ps [1] (.slice (some ⟨w5.heap.size, 0, none⟩) 1 1) rfl HN.out.1 rfl (OwnG.alloc HO5.out.1 _) rfl (src_rowG Try.tyI.1 1 1 (by show 0 < 1; omega) rfl HQ.out.row (fun h => by cases h)) (by omega) (by have := HO5.out.2; simp; omega) ?_
      intro a6 c6 w6 ho6 hg6 ht6
      have hx6 : Below w4.heap.size w4 w6 := below_appG (HX5.out.trans ((alloc_below w5 _).mono HO5.out.2)) (OwnG.alloc HO5.out.1 _) (by have := HO5.out.2; simp; omega) hg6
      have H6 := hidP (show GdB w w6 c a len cap E (.slice a1 n1 c1) (.slice a2 n2 c2) ps bs from H4.out.below hx6)
      have HO6 := hidP ho6
      clear ho6 hg6 ht6 hx6 H5 HO5 HQ HX5 H4 p0 p1 pF r0 r1 rF
      have q0 := H6.out.d0
      have q1 := H6.out.d1
      have qF := H6.out.dF
      have s0 := H6.out.op.r0
      have s1 := H6.out.op.r1
      have sF := H6.out.op.rF
      go_wp2_with fail
      have hn6 : ∀ k, (Value.slice a6 (n1 + 1) c6).ownBlock = some k → k ≠ E := fun k hk => by have h5 := (OwnG.lt HO6.out k hk).1; omega
      have hF := (H6.out.put0 (OwnG.mono HO6.out (show w.heap.size + 1 ≤ w4.heap.size from rL)) hn6).fin (.slice a6 (n1 + 1) c6) (.slice a2 n2 c2)
      exact bodyPost_ret (v := .agg #[.slice a6 (n1 + 1) c6, .slice a2 n2 c2]) (by simp [results, Try.results36, go_sem, s0, s1]) rfl ⟨⟨a6, n1 + 1, c6, a2, n2, c2, ps ++ [1], bs, rfl, by rw [List.length_append, ← HN.out.1]; rfl, HN.out.2, by omega, by omega, hF.1, hF.2.1⟩, hF.2.2⟩
    · have t1 : (x == 1) = false := by simp [hx1]
      by_cases hx2 : x = 2
      · subst hx2
        have z5 := own_twoI w4 (w.heap.size + 1) 0 8 rL
        have H5 := hidP ((H4.out.below (alloc_below w4 (.cells #[.int .i64 0, .int .i64 8] 3))).put1 z5 (fun k hk => by rw [ob_some, Option.some.injEq] at hk; omega))
        go_upto_region 9 with fail
        rw [← World.setCell_alloc_past _ E 1 _ pL]
        have q0 := H5.out.d0
        have q1 := H5.out.d1
        have s0 := H5.out.op.r0
        have s1 := H5.out.op.r1
        have sF := H5.out.op.rF
        generalize (w4.alloc (.cells #[.int .i64 0, .int .i64 8] 3)).setCell ⟨E, 1, none⟩ (.slice (some ⟨w4.heap.size, 0, none⟩) 2 2) = W5 at *
        clear p0 p1 pF r0 r1 rF z5 H4
        go_wp2_with fail
        have hF := H5.out.fin (.slice a1 n1 c1) (.slice (some ⟨w4.heap.size, 0, none⟩) 2 2)
        exact bodyPost_ret (v := .agg #[.slice a1 n1 c1, .slice (some ⟨w4.heap.size, 0, none⟩) 2 2]) (by simp [results, Try.results36, go_sem, s0, s1]) rfl ⟨⟨a1, n1, c1, _, 2, 2, ps, [0, 8], rfl, HN.out.1, rfl, by omega, by omega, hF.1, hF.2.1⟩, hF.2.2⟩
      · have t2 : (x == 2) = false := by simp [hx2]
        go_wp2_with fail
        have hF := H4.out.fin (.slice a1 n1 c1) (.slice a2 n2 c2)
        exact bodyPost_ret (v := .agg #[.slice a1 n1 c1, .slice a2 n2 c2]) (by simp [results, Try.results36, go_sem, r0, r1]) rfl ⟨⟨a1, n1, c1, a2, n2, c2, ps, bs, rfl, HN.out.1, HN.out.2, by omega, by omega, hF.1, hF.2.1⟩, hF.2.2⟩

/-- While FnGroupBytes draws: the result's box is w's first new block, the cursor its second. -/
structure GcI (w X : World) (a : Option Addr) (len cap : Nat) : Prop where
  cur : Cur X (w.heap.size + 1) a len cap
  low : Below w.heap.size w X
  r0 : X.cell? ⟨w.heap.size, 0, none⟩ = some (.slice none 0 0)
  r1 : X.cell? ⟨w.heap.size, 1, none⟩ = some (.slice none 0 0)
  rF : ∀ o, X.frozen? ⟨w.heap.size, o, none⟩ = false
theorem GcI.keep {w X Y : World} {a : Option Addr} {len cap : Nat} (h : GcI w X a len cap) (hC : Cur Y (w.heap.size + 1) a len cap) (k : Kp (w.heap.size + 1) X Y) : GcI w Y a len cap :=
  ⟨hC, h.low.trans (k.low.mono (by omega)), (k.low.cell (by dsimp only; omega)).trans h.r0, (k.low.cell (by dsimp only; omega)).trans h.r1, fun o => (k.low.frozen (by dsimp only; omega)).trans (h.rF o)⟩

set_option maxRecDepth 10000 in
set_option maxHeartbeats 2000000 in
theorem drawPutGroup_any (a : Option Addr) (len cap : Nat) (w : World) (hBy : Bytes w a len) (hl : len ≤ 1048576) :
    Calls Try.prog 10 #[.slice a len cap] w fun e w' => DrG w w' e 10 ∧ Below w.heap.size w w' := by
  have HBy := hidP hBy
  clear hBy
  go_enter Try.func10, Try.ntmps10
  go_wp2_with fail
  have zb1 := alloc_below w (.cells #[.slice none 0 0, .slice none 0 0] 26)
  have zs1 : (w.alloc (.cells #[.slice none 0 0, .slice none 0 0] 26)).heap.size = w.heap.size + 1 := by simp
  have q0 : (w.alloc (.cells #[.slice none 0 0, .slice none 0 0] 26)).cell? ⟨w.heap.size, 0, none⟩ = some (.slice none 0 0) := by simp [go_sem]
  have q1 : (w.alloc (.cells #[.slice none 0 0, .slice none 0 0] 26)).cell? ⟨w.heap.size, 1, none⟩ = some (.slice none 0 0) := by simp [go_sem]
  have qF : ∀ o, (w.alloc (.cells #[.slice none 0 0, .slice none 0 0] 26)).frozen? ⟨w.heap.size, o, none⟩ = false := fun o => by simp [go_sem]
  generalize w.alloc (.cells #[.slice none 0 0, .slice none 0 0] 26) = W1 at *
  have hB1 : Bytes W1 a len := fun j hj => by
    obtain ⟨p, o, v, ha, hp, cv, v0, v9⟩ := HBy.out j hj
    exact ⟨p, o, v, ha, by omega, (zb1.cell hp).trans cv, v0, v9⟩
  refine (l1New_any a len cap W1 hB1 hl).mono ?_
  rintro e w2 ⟨rfl, hC2, hb2, hs2⟩
  rw [zs1] at hC2
  have H2 := hidP (show GcI w w2 a len cap from ⟨hC2, zb1.trans (hb2.mono zb1.size), (hb2.cell (by dsimp only; omega)).trans q0, (hb2.cell (by dsimp only; omega)).trans q1, fun o => (hb2.frozen (by dsimp only; omega)).trans (qF o)⟩)
  rw [zs1]
  clear hB1 hC2 hb2 hs2 q0 q1 qF zb1 zs1 HBy
  go_wp2_with fail
  refine (l12DrawAny_any (w.heap.size + 1) a len cap w2 H2.out.cur).mono ?_
  rintro e w3 ⟨⟨a1, n1, c1, a2, n2, c2, ps, bs, rfl, hn1, hn2, hl1, hl2, ho1, ho2⟩, hC3, hK3⟩
  have H3 := hidP (H2.out.keep hC3 hK3)
  have hw2 := H2.out.cur.lt
  have HO1 := hidP (OwnG.mono ho1 (show w.heap.size + 2 ≤ w2.heap.size from hw2))
  have HO2 := hidP (OwnG.mono ho2 (show w.heap.size + 2 ≤ w2.heap.size from hw2))
  have HN := hidP (And.intro hn1 hn2)
  clear hC3 hK3 H2 ho1 ho2 hn1 hn2 hw2
  have r0 := H3.out.r0
  have r1 := H3.out.r1
  have rF := H3.out.rF
  go_wp2_with fail
  have g1 : ∀ k, (Value.slice a1 n1 c1).ownBlock = some k → k ≠ w.heap.size := fun k hk => by have := (OwnG.lt HO1.out k hk).1; omega
  have g2 : ∀ k, (Value.slice a2 n2 c2).ownBlock = some k → k ≠ w.heap.size := fun k hk => by have := (OwnG.lt HO2.out k hk).1; omega
  refine bodyPost_ret (v := .agg #[.slice a1 n1 c1, .slice a2 n2 c2]) (by simp [results, Try.results10, go_sem, r0, r1]) rfl ⟨⟨a1, n1, c1, a2, n2, c2, ps, bs, rfl, HN.out.1, HN.out.2, hl1, hl2, ?_, ?_⟩, ?_⟩
  · exact OwnG.mono (own_setG (own_setG HO1.out g1 _) g1 _) (by omega)
  · exact OwnG.mono (own_setG (own_setG HO2.out g2 _) g2 _) (by omega)
  · exact (H3.out.low.setCell (Nat.le_refl _) _).setCell (Nat.le_refl _) _

end Go.Proofs.Ytnngbeoeocbofaa
