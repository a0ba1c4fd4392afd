/-
  The specification's l6DrawAny and DrawAdvance: some book of at most 81 leases, and some time.
-/
import Derived.Test.YtddnofonodgneaaGreatDoorWBn
import Derived.Test.YtddnofonodgneaaGreatDoorWDr6
namespace Go.Proofs.YtddnofonodgneaaGreatDoor
open Go.RowKit

/-- While a law draws: the result's box is w's first new block, the cursor its second. -/
structure OpI (w X : World) (a : Option Addr) (len cap : Nat) : Prop where
  acc : Below w.heap.size w X
  cur : Cur X (w.heap.size + 1) a len cap
  r0 : X.cell? ⟨w.heap.size, 0, none⟩ = some (.slice none 0 0)
  r1 : X.cell? ⟨w.heap.size, 1, none⟩ = some (.int .i64 0)
  r2 : X.cell? ⟨w.heap.size, 2, none⟩ = some (.int .i64 0)
  rF : ∀ o, X.frozen? ⟨w.heap.size, o, none⟩ = false
theorem OpI.b2 {w X Y : World} {a : Option Addr} {len cap : Nat} (h : OpI w X a len cap) (k : Below (w.heap.size + 2) X Y) : OpI w Y a len cap :=
  ⟨h.acc.trans (k.mono (by omega)), h.cur.keep k, (k.cell (by dsimp only; omega)).trans h.r0, (k.cell (by dsimp only; omega)).trans h.r1, (k.cell (by dsimp only; omega)).trans h.r2, fun o => (k.frozen (by dsimp only; omega)).trans (h.rF o)⟩
theorem OpI.keep {w X Y : World} {a : Option Addr} {len cap : Nat} (h : OpI w X a len cap) (hC : Cur Y (w.heap.size + 1) a len cap) (k : Kp (w.heap.size + 1) X Y) : OpI w Y a len cap :=
  ⟨h.acc.trans (k.low.mono (by omega)), hC, (k.low.cell (by dsimp only; omega)).trans h.r0, (k.low.cell (by dsimp only; omega)).trans h.r1, (k.low.cell (by dsimp only; omega)).trans h.r2, fun o => (k.low.frozen (by dsimp only; omega)).trans (h.rF o)⟩
theorem OpI.sz {w X : World} {a : Option Addr} {len cap : Nat} (h : OpI w X a len cap) : w.heap.size + 2 ≤ X.heap.size := h.cur.lt
theorem OpI.below {w X Y : World} {a : Option Addr} {len cap : Nat} (h : OpI w X a len cap) (k : Below X.heap.size X Y) : OpI w Y a len cap := h.b2 (k.mono h.sz)
/-- And the book's box is block e. -/
structure OpB (w X : World) (a : Option Addr) (len cap : Nat) (e : Nat) (b : Option Addr) (n d : Nat) (K N : Int) (ls : List Ls) : Prop where
  op : OpI w X a len cap
  he : w.heap.size + 2 ≤ e
  hl : e < X.heap.size
  d0 : X.cell? ⟨e, 0, none⟩ = some (.slice b n d)
  d1 : X.cell? ⟨e, 1, none⟩ = some (.int .i64 K)
  d2 : X.cell? ⟨e, 2, none⟩ = some (.int .i64 N)
  own : OwnG KLs 35 X (w.heap.size + 2) (.slice b n d) ls
theorem OpB.keep {w X Y : World} {a : Option Addr} {len cap e : Nat} {b : Option Addr} {n d : Nat} {K N : Int} {ls : List Ls} (h : OpB w X a len cap e b n d K N ls) (hC : Cur Y (w.heap.size + 1) a len cap) (k : Kp (w.heap.size + 1) X Y) : OpB w Y a len cap e b n d K N ls := by
  have h1 := h.he; have h2 := h.hl
  exact ⟨h.op.keep hC k, h.he, Nat.lt_of_lt_of_le h.hl k.big, (k.cel _ _ h2 (by omega)).trans h.d0, (k.cel _ _ h2 (by omega)).trans h.d1, (k.cel _ _ h2 (by omega)).trans h.d2, h.own.kp k (by omega)⟩
theorem OpB.below {w X Y : World} {a : Option Addr} {len cap e : Nat} {b : Option Addr} {n d : Nat} {K N : Int} {ls : List Ls} (h : OpB w X a len cap e b n d K N ls) (k : Below X.heap.size X Y) : OpB w Y a len cap e b n d K N ls :=
  ⟨h.op.below k, h.he, Nat.lt_of_lt_of_le h.hl k.size, (k.cell h.hl).trans h.d0, (k.cell h.hl).trans h.d1, (k.cell h.hl).trans h.d2, h.own.later k⟩
theorem OpI.fin {w X : World} {a : Option Addr} {len cap : Nat} (h : OpI w X a len cap) {b : Option Addr} {n d : Nat} {ls : List Ls} (ho : OwnG KLs 35 X (w.heap.size + 2) (.slice b n d) ls) (u v x : Value) :
    OwnG KLs 35 (((X.setCell ⟨w.heap.size, 0, none⟩ u).setCell ⟨w.heap.size, 1, none⟩ v).setCell ⟨w.heap.size, 2, none⟩ x) w.heap.size (.slice b n d) ls ∧ Below w.heap.size w (((X.setCell ⟨w.heap.size, 0, none⟩ u).setCell ⟨w.heap.size, 1, none⟩ v).setCell ⟨w.heap.size, 2, none⟩ x) :=
  ⟨OwnG.mono (OwnG.grown (OwnG.grown (OwnG.grown ho (grown_cellG _ _ _ _) (OwnG.ne_of ho (by omega))) (grown_cellG _ _ _ _) (OwnG.ne_of ho (by omega))) (grown_cellG _ _ _ _) (OwnG.ne_of ho (by omega))) (by omega), ((h.acc.setCell (Nat.le_refl _) _).setCell (Nat.le_refl _) _).setCell (Nat.le_refl _) _⟩

theorem cells6 (w : World) (t : TypeId) (x0 x1 x2 x3 x4 x5 : Int) : ∀ j, j < 6 → ∃ z, (fun _ : Int => True) z ∧ (w.alloc (.cells #[.int .i64 x0, .int .i64 x1, .int .i64 x2, .int .i64 x3, .int .i64 x4, .int .i64 x5] t)).cell? ⟨w.heap.size, j, none⟩ = some (.int .i64 z) := fun j hj => by
  match j, hj with
  | 0, _ => exact ⟨x0, trivial, by simp [go_sem]⟩
  | 1, _ => exact ⟨x1, trivial, by simp [go_sem]⟩
  | 2, _ => exact ⟨x2, trivial, by simp [go_sem]⟩
  | 3, _ => exact ⟨x3, trivial, by simp [go_sem]⟩
  | 4, _ => exact ⟨x4, trivial, by simp [go_sem]⟩
  | 5, _ => exact ⟨x5, trivial, by simp [go_sem]⟩
set_option maxRecDepth 10000 in
set_option maxHeartbeats 4000000 in
theorem l6DrawAny_any (c : Nat) (a : Option Addr) (len cap : Nat) (m : Int) (W : World) (hC : Cur W c a len cap) (hm : 0 < m) (hm9 : m ≤ 100) :
    Calls Tryz.prog 18 #[.pointer (some ⟨c, 0, none⟩), .int .i64 m] W fun e W' => ∃ b' n' d' K' N' ls', e = .returned (.agg #[.slice b' n' d', .int .i64 K', .int .i64 N']) ∧ n' = ls'.length ∧ n' ≤ 81 ∧ Sml ls' ∧ OwnG KLs 35 W' W.heap.size (.slice b' n' d') ls' ∧ Cur W' c a len cap ∧ Kp c W W' := by
  have HC := hidP hC
  have hcl := hC.lt
  clear hC
  go_enter Tryz.func18, Tryz.ntmps18
  go_wp2_with fail
  have zb1 := alloc_below W (.cells #[.slice none 0 0, .int .i64 0, .int .i64 0] 26)
  have zs1 : (W.alloc (.cells #[.slice none 0 0, .int .i64 0, .int .i64 0] 26)).heap.size = W.heap.size + 1 := by simp
  obtain ⟨q0, q1, q2⟩ := box3B W 26 (.slice none 0 0) (.int .i64 0) (.int .i64 0)
  have qF := frz3 W 26 (.slice none 0 0) (.int .i64 0) (.int .i64 0)
  generalize W.alloc (.cells #[.slice none 0 0, .int .i64 0, .int .i64 0] 26) = W1 at *
  have hC1 := HC.out.grew zb1
  have hk1 := Kp.of_below hcl zb1
  refine (l6Draw_any c a len cap m _ hC1 hm hm9).mono ?_
  rintro e w2 ⟨b, n, d, K, N, ls, rfl, hn, h80, hs, ho2, hC2, hK2⟩
  rw [zs1] at ho2
  have HN := hidP (And.intro hn hs)
  have HQ := hidP (BnI.mk0 (r := W.heap.size) (W := W) K N hC2 (hk1.trans hK2) hcl (Nat.le_refl _) (by have := hK2.big; omega) ((hK2.cel _ _ (by omega) (by omega)).trans q0) ((hK2.cel _ _ (by omega) (by omega)).trans q1) ((hK2.cel _ _ (by omega) (by omega)).trans q2) (fun o => (hK2.frz _ _ (by omega) (by omega)).trans (qF o)) ho2)
  have ne1 : ¬ (w2.heap.size = W.heap.size) := by have := hK2.big; omega
  have ne2 : ¬ (W.heap.size = w2.heap.size) := by omega
  clear hn hs ho2 hC2 hK2 q0 q1 q2 qF hC1 hk1 zb1 zs1
  go_wp2_with fail
  generalize w2.alloc (.cells #[.slice b n d, .int .i64 K, .int .i64 N] 26) = w3 at *
  refine (l1Once_any c a len cap 6 _ HQ.out.cur).mono ?_
  rintro e w4 ⟨⟨B, rfl⟩, hC4, hK4⟩
  have HD4 := hidP (HQ.out.keep hC4 hK4)
  clear hC4 hK4 HQ
  cases B
  · have p0 := HD4.out.d0
    have q0 := HD4.out.r0
    have p1 := HD4.out.d1
    have q1 := HD4.out.r1
    have p2 := HD4.out.d2
    have q2 := HD4.out.r2
    have qF := HD4.out.rF
    have pF := HD4.out.dF
    go_wp2_with fail
    refine bodyPost_ret (v := .agg #[.slice b n d, .int .i64 K, .int .i64 N]) (by simp [results, Tryz.results18, go_sem, q0, q1, q2]) rfl ⟨b, n, d, K, N, ls, rfl, HN.out.1, (by omega), HN.out.2, (HD4.out.fin _ _ _).2.2, (HD4.out.fin _ _ _).1, (HD4.out.fin _ _ _).2.1⟩
  · have p0 := HD4.out.d0
    have p1 := HD4.out.d1
    have p2 := HD4.out.d2
    go_wp2_with fail
    refine (l6Bend_any c a len cap b n d K N ls _ HD4.out.cur HN.out.1 HD4.out.own.row HD4.out.own.caps.2.2.2 h80 HN.out.2).mono ?_
    rintro e w5 ⟨b', n', d', K', N', ls', rfl, hn', h81, hs', ho5, hC5, hK5⟩
    have ne' : ∀ k, (Value.slice b' n' d').ownBlock = some k → k ≠ w2.heap.size := fun k hk => by have := (OwnG.lt ho5 k hk).1; have := HD4.out.hl; omega
    have HN5 := hidP (And.intro hn' hs')
    have HD5 := hidP ((HD4.out.keep hC5 hK5).put K' N' (OwnG.mono ho5 HD4.out.sz) ne')
    have p0 := (HD4.out.keep hC5 hK5).d0
    have p1 := (HD4.out.keep hC5 hK5).d1
    have p2 := (HD4.out.keep hC5 hK5).d2
    have pF := (HD4.out.keep hC5 hK5).dF
    have q0 := (HD4.out.keep hC5 hK5).r0
    have q1 := (HD4.out.keep hC5 hK5).r1
    have q2 := (HD4.out.keep hC5 hK5).r2
    have qF := (HD4.out.keep hC5 hK5).rF
    clear hn' hs' ho5 hC5 hK5 ne' HD4
    go_wp2_with fail
    refine bodyPost_ret (v := .agg #[.slice b' n' d', .int .i64 K', .int .i64 N']) (by simp [results, Tryz.results18, go_sem, q0, q1, q2]) rfl ⟨b', n', d', K', N', ls', rfl, HN5.out.1, by omega, HN5.out.2, (HD5.out.fin _ _ _).2.2, (HD5.out.fin _ _ _).1, (HD5.out.fin _ _ _).2.1⟩
set_option maxRecDepth 10000 in
set_option maxHeartbeats 4000000 in
theorem drawAdv_any (a : Option Addr) (len cap : Nat) (w : World) (hBy : Bytes w a len) (hl : len ≤ 1048576) :
    Calls Tryz.prog 14 #[.slice a len cap] w fun e w' => ∃ b n d K N ls u, e = .returned (.tuple #[.agg #[.slice b n d, .int .i64 K, .int .i64 N], .int .i64 u]) ∧ n = ls.length ∧ n ≤ 81 ∧ Sml ls ∧ OwnG KLs 35 w' w.heap.size (.slice b n d) ls ∧ Below w.heap.size w w' := by
  have HBy := hidP hBy
  clear hBy
  go_enter Tryz.func14, Tryz.ntmps14
  go_wp2_with fail
  have zb1 := alloc_below w (.cells #[.slice none 0 0, .int .i64 0, .int .i64 0] 26)
  have zs1 : (w.alloc (.cells #[.slice none 0 0, .int .i64 0, .int .i64 0] 26)).heap.size = w.heap.size + 1 := by simp
  obtain ⟨q0, q1, q2⟩ := box3B w 26 (.slice none 0 0) (.int .i64 0) (.int .i64 0)
  have qF := frz3 w 26 (.slice none 0 0) (.int .i64 0) (.int .i64 0)
  generalize w.alloc (.cells #[.slice none 0 0, .int .i64 0, .int .i64 0] 26) = W1 at *
  have hB1 : Bytes W1 a len := fun j hj => by
    obtain ⟨p, o, v, ha, hp, cv, v0, v9⟩ := HBy.out j hj
    exact ⟨p, o, v, ha, by omega, (zb1.cell hp).trans cv, v0, v9⟩
  refine (l1New_any a len cap W1 hB1 hl).mono ?_
  rintro e w2 ⟨rfl, hC2, hb2, hs2⟩
  rw [zs1] at hC2
  have HO2 := hidP (show OpI w w2 a len cap from ⟨zb1.trans (hb2.mono zb1.size), hC2, (hb2.cell (by dsimp only; omega)).trans q0, (hb2.cell (by dsimp only; omega)).trans q1, (hb2.cell (by dsimp only; omega)).trans q2, fun o => (hb2.frozen (by dsimp only; omega)).trans (qF o)⟩)
  rw [zs1]
  clear hB1 hC2 hb2 hs2 q0 q1 q2 qF zb1 zs1
  go_wp2_with fail
  refine (l1Size_any a len cap 16 (by omega) hl _).mono ?_
  rintro e w' ⟨⟨sz, sz0, sz9, rfl⟩, hw'⟩
  rw [hw']
  clear hw' w'
  go_wp2_with fail
  refine (l6DrawAny_any (w.heap.size + 1) a len cap sz _ HO2.out.cur sz0 (by omega)).mono ?_
  rintro e w3 ⟨b, n, d, K, N, ls, rfl, hn, h81, hs, ho3, hC3, hK3⟩
  have HO3 := hidP (HO2.out.keep hC3 hK3)
  have HW3 := hidP (OwnG.mono ho3 HO2.out.sz)
  have HN := hidP (And.intro hn hs)
  clear hn hs ho3 hC3 hK3 sz0 sz9
  go_wp2_with fail
  have HD4 := hidP (show OpB w (w3.alloc (.cells #[.slice b n d, .int .i64 K, .int .i64 N] 26)) a len cap w3.heap.size b n d K N ls from by
    have zb := alloc_below w3 (.cells #[.slice b n d, .int .i64 K, .int .i64 N] 26)
    exact ⟨HO3.out.below zb, HO3.out.sz, alloc_lt _ _, by simp [go_sem], by simp [go_sem], by simp [go_sem], HW3.out.later zb⟩)
  generalize w3.alloc (.cells #[.slice b n d, .int .i64 K, .int .i64 N] 26) = W4 at *
  clear HO2 HO3 HW3
  have HD4d := hidP (HD4.out.below (Below.refl _ _).drew)
  refine wp_region_held_drew (S := (fun X => X.cell? ⟨w3.heap.size, 0, none⟩ = some (.slice b n d) ∧ X.cell? ⟨w3.heap.size, 1, none⟩ = some (.int .i64 K) ∧ X.cell? ⟨w3.heap.size, 2, none⟩ = some (.int .i64 N))) (by kernel_rfl) ?_ (fun hHeld => ?_)
  · try dsimp only
    exact ⟨HD4d.out.d0, HD4d.out.d1, HD4d.out.d2⟩
  refine wpAnyH_take (i := 0) (oi := ⟨some 12, _, _, _, _, _⟩) (v := ?_) rfl (by kernel_rfl) (by kernel_rfl) (by kernel_rfl) (fun _ _ _ h => h) (Or.inl ⟨by rfl, ?_⟩) (by assumption) ?_
  rotate_left
  · intro w hSw
    try dsimp only at hSw
    go_simp
    try with_reducible rfl
  simp only [Act.put, List.setIfInBounds_toArray, List.set_cons_zero, List.set_cons_succ]
  refine wpAnyH_take (i := 1) (oi := ⟨some 13, _, _, _, _, _⟩) (v := ?_) rfl (by kernel_rfl) (by kernel_rfl) (by kernel_rfl) (fun _ _ _ h => h) (Or.inl ⟨by rfl, ?_⟩) (by assumption) ?_
  rotate_left
  · intro w hSw
    try dsimp only at hSw
    go_simp
    try with_reducible rfl
  simp only [Act.put, List.setIfInBounds_toArray, List.set_cons_zero, List.set_cons_succ]
  refine wpAnyH_take (i := 2) (oi := ⟨some 14, _, _, _, _, _⟩) (v := ?_) rfl (by kernel_rfl) (by kernel_rfl) (by kernel_rfl) (fun _ _ _ h => h) (Or.inl ⟨by rfl, ?_⟩) (by assumption) ?_
  rotate_left
  · intro w hSw
    try dsimp only at hSw
    go_simp
    try with_reducible rfl
  simp only [Act.put, List.setIfInBounds_toArray, List.set_cons_zero, List.set_cons_succ]
  refine wpAnyH_take (i := 3) (oi := ⟨some 15, _, _, _, _, _⟩) (v := ?_) rfl (by kernel_rfl) (by kernel_rfl) (by kernel_rfl) (fun _ _ _ h => h) (Or.inl ⟨by rfl, ?_⟩) (by assumption) ?_
  rotate_left
  · intro w hSw
    try dsimp only at hSw
    go_simp
    try with_reducible rfl
  simp only [Act.put, List.setIfInBounds_toArray, List.set_cons_zero, List.set_cons_succ]
  refine wpAnyH_ready (rs := [4]) (by kernel_rfl) (by simp) ?_
  refine AllReadyH.cons rfl (fun KK hK => ?_) AllReadyH.nil
  go_simp
  have zb := (alloc_below W4 (.cells #[.int .i64 0, .int .i64 1, .int .i64 20, .int .i64 60, .int .i64 (-1), .int .i64 1000000000] 3)).drew
  have zl : W4.heap.size < (W4.alloc (.cells #[.int .i64 0, .int .i64 1, .int .i64 20, .int .i64 60, .int .i64 (-1), .int .i64 1000000000] 3)).drew.heap.size := alloc_lt W4 (.cells #[.int .i64 0, .int .i64 1, .int .i64 20, .int .i64 60, .int .i64 (-1), .int .i64 1000000000] 3)
  have zc : ∀ j, j < 6 → ∃ z, (fun _ : Int => True) z ∧ (W4.alloc (.cells #[.int .i64 0, .int .i64 1, .int .i64 20, .int .i64 60, .int .i64 (-1), .int .i64 1000000000] 3)).drew.cell? ⟨W4.heap.size, j, none⟩ = some (.int .i64 z) := cells6 W4 3 0 1 20 60 (-1) 1000000000
  have HE2 := hidP (HD4.out.below zb)
  have hne : W4.heap.size ≠ w.heap.size + 1 := by have := HD4.out.op.sz; omega
  generalize (W4.alloc (.cells #[.int .i64 0, .int .i64 1, .int .i64 20, .int .i64 60, .int .i64 (-1), .int .i64 1000000000] 3)).drew = v2 at *
  refine hK.out _ _ ?_ (fun hHeld => ?_)
  · try dsimp only
    exact ⟨HE2.out.d0, HE2.out.d1, HE2.out.d2⟩
  clear hK KK
  refine wpAnyH_ready (rs := [5]) (by kernel_rfl) (by simp) ?_
  refine AllReadyH.cons rfl (fun KK hK => ?_) AllReadyH.nil
  go_simp
  go_wp2_with (first | (go_at_call 23; refine (l1Int_any (fun _ => True) (w.heap.size + 1) a len cap W4.heap.size 6 _ HE2.out.op.cur (by omega) (by omega) zl hne zc).mono ?_; rintro e v3 ⟨⟨z, _, rfl⟩, hC3, hK3⟩))
  have HE3 := hidP (HE2.out.keep hC3 hK3)
  clear hC3 hK3 zb zl zc
  refine hK.out _ _ ?_ (fun hHeld => ?_)
  · try dsimp only
    exact ⟨HE3.out.d0, HE3.out.d1, HE3.out.d2⟩
  clear hK KK
  refine wpAnyH_take (i := 6) (oi := ⟨some 18, _, _, _, _, _⟩) (v := ?_) rfl (by kernel_rfl) (by kernel_rfl) (by kernel_rfl) (fun _ _ _ h => h) (Or.inl ⟨by rfl, ?_⟩) (by assumption) ?_
  rotate_left
  · intro w hSw
    try dsimp only at hSw
    go_simp
    try with_reducible rfl
  simp only [Act.put, List.setIfInBounds_toArray, List.set_cons_zero, List.set_cons_succ]
  refine wpAnyH_ready (rs := [7]) (by kernel_rfl) (by simp) ?_
  refine AllReadyH.cons rfl (fun KK hK => ?_) AllReadyH.nil
  have q0 := HE3.out.op.r0
  have q1 := HE3.out.op.r1
  have q2 := HE3.out.op.r2
  have qF := HE3.out.op.rF
  have hxe : w3.heap.size ≠ w.heap.size := by have := HE3.out.he; omega
  go_simp
  refine hK.out _ _ ?_ (fun hHeld => ?_)
  · try dsimp only
    exact ⟨cell_set1 (cell_set1 (cell_set1 HE3.out.d0 hxe) hxe) hxe, cell_set1 (cell_set1 (cell_set1 HE3.out.d1 hxe) hxe) hxe, cell_set1 (cell_set1 (cell_set1 HE3.out.d2 hxe) hxe) hxe⟩
  clear hK KK
  refine wpAnyH_take (i := 8) (oi := ⟨some 3, _, _, _, _, _⟩) (v := ?_) rfl (by kernel_rfl) (by kernel_rfl) (by kernel_rfl) (fun _ _ _ h => h) (Or.inl ⟨by rfl, ?_⟩) (by assumption) ?_
  rotate_left
  · intro w hSw
    try dsimp only at hSw
    go_simp
    try with_reducible rfl
  simp only [Act.put, List.setIfInBounds_toArray]
  refine wpAnyH_done (by kernel_rfl) ?_ _
  clear hHeld
  go_wp2_with fail
  refine bodyPost_ret (v := .tuple #[.agg #[.slice b n d, .int .i64 K, .int .i64 N], .int .i64 (IntKind.i64.wrap (N + z))]) (by simp [results, Tryz.results14, go_sem, q0, q1, q2]) rfl ⟨b, n, d, K, N, ls, _, rfl, HN.out.1, h81, HN.out.2, (HE3.out.op.fin HE3.out.own _ _ _).1, (HE3.out.op.fin HE3.out.own _ _ _).2⟩

end Go.Proofs.YtddnofonodgneaaGreatDoor
