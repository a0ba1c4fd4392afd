/-
  What granted_card needs, part 7.
-/
import Derived.Test.YtddnofonodgneaaGreatDoorZG6
namespace Go.Proofs.YtddnofonodgneaaGreatDoor
open Go.RowKit

/-- While DrawGrant draws: the two results' boxes are w's first new blocks, the cursor the third. -/
structure OgI (w X : World) (a : Option Addr) (len cap : Nat) : Prop where
  acc : Below w.heap.size w X
  cur : Cur X (w.heap.size + 2) a len cap
  r0 : X.cell? ⟨w.heap.size, 0, none⟩ = some (.slice none 0 0)
  r1 : X.cell? ⟨w.heap.size, 1, none⟩ = some (.int .i64 0)
  r2 : X.cell? ⟨w.heap.size, 2, none⟩ = some (.int .i64 0)
  s0 : X.cell? ⟨w.heap.size + 1, 0, none⟩ = some (.bool false)
  s1 : X.cell? ⟨w.heap.size + 1, 1, none⟩ = some (.int .i64 0)
  s2 : X.cell? ⟨w.heap.size + 1, 2, none⟩ = some (.int .i64 0)
  rF : ∀ o, X.frozen? ⟨w.heap.size, o, none⟩ = false
  sF : ∀ o, X.frozen? ⟨w.heap.size + 1, o, none⟩ = false
theorem OgI.b3 {w X : World} {a : Option Addr} {len cap : Nat} {Y : World} (h : OgI w X a len cap) (k : Below (w.heap.size + 3) X Y) : OgI w Y a len cap :=
  ⟨h.acc.trans (k.mono (by omega)), h.cur.keep k, (k.cell (by dsimp only; omega)).trans h.r0, (k.cell (by dsimp only; omega)).trans h.r1, (k.cell (by dsimp only; omega)).trans h.r2, (k.cell (by dsimp only; omega)).trans h.s0, (k.cell (by dsimp only; omega)).trans h.s1, (k.cell (by dsimp only; omega)).trans h.s2, fun o => (k.frozen (by dsimp only; omega)).trans (h.rF o), fun o => (k.frozen (by dsimp only; omega)).trans (h.sF o)⟩
theorem OgI.keep {w X : World} {a : Option Addr} {len cap : Nat} {Y : World} (h : OgI w X a len cap) (hC : Cur Y (w.heap.size + 2) a len cap) (k : Kp (w.heap.size + 2) X Y) : OgI w Y a len cap :=
  ⟨h.acc.trans (k.low.mono (by omega)), hC, (k.low.cell (by dsimp only; omega)).trans h.r0, (k.low.cell (by dsimp only; omega)).trans h.r1, (k.low.cell (by dsimp only; omega)).trans h.r2, (k.low.cell (by dsimp only; omega)).trans h.s0, (k.low.cell (by dsimp only; omega)).trans h.s1, (k.low.cell (by dsimp only; omega)).trans h.s2, fun o => (k.low.frozen (by dsimp only; omega)).trans (h.rF o), fun o => (k.low.frozen (by dsimp only; omega)).trans (h.sF o)⟩
theorem OgI.sz {w X : World} {a : Option Addr} {len cap : Nat} (h : OgI w X a len cap) : w.heap.size + 3 ≤ X.heap.size := h.cur.lt
theorem OgI.below {w X : World} {a : Option Addr} {len cap : Nat} {Y : World} (h : OgI w X a len cap) (k : Below X.heap.size X Y) : OgI w Y a len cap := h.b3 (k.mono h.sz)
/-- And the book's box is block e. -/
structure OgB (w X : World) (a : Option Addr) (len cap : Nat) (e : Nat) (b : Option Addr) (n d : Nat) (K N : Int) (ls : List Ls) : Prop where
  op : OgI w X a len cap
  he : w.heap.size + 3 ≤ e
  hl : e < X.heap.size
  d0 : X.cell? ⟨e, 0, none⟩ = some (.slice b n d)
  d1 : X.cell? ⟨e, 1, none⟩ = some (.int .i64 K)
  d2 : X.cell? ⟨e, 2, none⟩ = some (.int .i64 N)
  dF : ∀ o, X.frozen? ⟨e, o, none⟩ = false
  own : OwnG KLs 35 X (w.heap.size + 3) (.slice b n d) ls
  ne : ∀ k, (Value.slice b n d).ownBlock = some k → k ≠ e
theorem OgB.keep {w X : World} {a : Option Addr} {len cap : Nat} {e : Nat} {b : Option Addr} {n d : Nat} {K N : Int} {ls : List Ls} {Y : World} (h : OgB w X a len cap e b n d K N ls) (hC : Cur Y (w.heap.size + 2) a len cap) (k : Kp (w.heap.size + 2) X Y) : OgB w Y a len cap e b n d K N ls := by
  have h1 := h.he; have h2 := h.hl
  exact ⟨h.op.keep hC k, h.he, Nat.lt_of_lt_of_le h.hl k.big, (k.cel _ _ h2 (by omega)).trans h.d0, (k.cel _ _ h2 (by omega)).trans h.d1, (k.cel _ _ h2 (by omega)).trans h.d2, fun o => (k.frz _ _ h2 (by omega)).trans (h.dF o), h.own.kp k (by omega), h.ne⟩
theorem OgB.below {w X : World} {a : Option Addr} {len cap : Nat} {e : Nat} {b : Option Addr} {n d : Nat} {K N : Int} {ls : List Ls} {Y : World} (h : OgB w X a len cap e b n d K N ls) (k : Below X.heap.size X Y) : OgB w Y a len cap e b n d K N ls :=
  ⟨h.op.below k, h.he, Nat.lt_of_lt_of_le h.hl k.size, (k.cell h.hl).trans h.d0, (k.cell h.hl).trans h.d1, (k.cell h.hl).trans h.d2, fun o => (k.frozen h.hl).trans (h.dF o), h.own.later k, h.ne⟩
theorem OgB.put {w X : World} {a : Option Addr} {len cap : Nat} {e : Nat} {b : Option Addr} {n d : Nat} {K N : Int} {ls : List Ls} (h : OgB w X a len cap e b n d K N ls) {b' : Option Addr} {n' d' : Nat} {ls' : List Ls} (K' N' : Int) (ho : OwnG KLs 35 X (w.heap.size + 3) (.slice b' n' d') ls') (hne : ∀ k, (Value.slice b' n' d').ownBlock = some k → k ≠ e) :
    OgB w (((X.setCell ⟨e, 0, none⟩ (.slice b' n' d')).setCell ⟨e, 1, none⟩ (.int .i64 K')).setCell ⟨e, 2, none⟩ (.int .i64 N')) a len cap e b' n' d' K' N' ls' := by
  have h1 := h.he
  refine ⟨h.op.b3 ((((Below.refl _ _).setCell (by show w.heap.size + 3 ≤ e; omega) _).setCell (by show w.heap.size + 3 ≤ e; omega) _).setCell (by show w.heap.size + 3 ≤ e; omega) _), h.he, by simpa using h.hl, by simp [go_sem, h.d0], by simp [go_sem, h.d1], by simp [go_sem, h.d2], fun o => frz_set1 (frz_set1 (frz_set1 (h.dF o))), OwnG.grown (OwnG.grown (OwnG.grown ho (grown_cellG _ _ _ _) (fun k hk q => hne k hk (by simpa using q.symm))) (grown_cellG _ _ _ _) (fun k hk q => hne k hk (by simpa using q.symm))) (grown_cellG _ _ _ _) (fun k hk q => hne k hk (by simpa using q.symm)), hne⟩
theorem OgB.app {w X : World} {a : Option Addr} {len cap : Nat} {e : Nat} {b : Option Addr} {n d : Nat} {K N : Int} {ls : List Ls} {X1 Y : World} (h : OgB w X a len cap e b n d K N ls) (hX : Below X.heap.size X X1) {b' : Option Addr} {n' d' : Nat} {ls' : List Ls} (ho : OwnG KLs 35 Y (w.heap.size + 3) (.slice b' n' d') ls') (hg : X1.grownBy Y (Value.slice b n d).ownBlock) (ht : b' = b ∨ b' = some ⟨X1.heap.size, 0, none⟩) :
    OgB w (Y.setCell ⟨e, 0, none⟩ (.slice b' n' d')) a len cap e b' n' d' K N ls' ∧ Y.cell? ⟨e, 0, none⟩ = some (.slice b n d) ∧ Y.frozen? ⟨e, 0, none⟩ = false := by
  have h1 := h.he; have h2 := h.hl; have h3 := hX.size
  have h' := h.below hX
  have hb : Below (w.heap.size + 3) X1 Y := (Below.refl _ _).grown hg h'.op.sz (fun k hk => (OwnG.lt h.own k hk).1)
  have hne : ∀ k, (Value.slice b' n' d').ownBlock = some k → k ≠ e := fun k hk he => by
    rcases ht with ht | ht
    · rw [ht] at hk; exact h.ne k ((ob_len b n d n' d').trans hk) he
    · rw [ht, ob_some, Option.some.injEq] at hk; omega
  have c0 := cell_grown hg h'.d0 h.ne
  have c1 := cell_grown hg h'.d1 h.ne
  have c2 := cell_grown hg h'.d2 h.ne
  have cF : ∀ o, Y.frozen? ⟨e, o, none⟩ = false := fun o => frz_grown hg h'.hl (h'.dF o) h.ne
  refine ⟨⟨(h'.op.b3 hb).b3 ((Below.refl _ _).setCell (by show w.heap.size + 3 ≤ e; omega) _), h.he, by have := hg.size; simp; have := h'.hl; omega, by simp [go_sem, c0], by simp [go_sem, c1], by simp [go_sem, c2], fun o => frz_set1 (cF o), OwnG.grown ho (grown_cellG _ _ _ _) (fun k hk q => hne k hk (by simpa using q.symm)), hne⟩, c0, cF 0⟩
theorem own_low {X : World} {B x o : Nat} {v u : Value} {ls : List Ls} (h : OwnG KLs 35 X B v ls) (hx : x < B) : OwnG KLs 35 (X.setCell ⟨x, o, none⟩ u) B v ls := OwnG.grown h (grown_cellG _ _ _ _) (OwnG.ne_of h hx)
theorem bel_low {w X : World} {B x o : Nat} {u : Value} (h : Below B w X) (hx : B ≤ x) : Below B w (X.setCell ⟨x, o, none⟩ u) := h.setCell hx _
/-- A row of texts to choose from, a row of numbers to choose from. -/
structure StB (c : Nat) (X : World) (q : Nat) : Prop where
  lt : q < X.heap.size
  ne : q ≠ c
  cv : ∀ j, j < 4 → ∃ z : ByteArray, z.size ≤ 100 ∧ X.cell? ⟨q, j, none⟩ = some (.string z)
theorem StB.keep {c q : Nat} {X Y : World} (h : StB c X q) (k : Kp c X Y) : StB c Y q :=
  ⟨Nat.lt_of_lt_of_le h.lt k.big, h.ne, fun j hj => (h.cv j hj).elim fun z hz => ⟨z, hz.1, (k.cel _ _ h.lt h.ne).trans hz.2⟩⟩
structure InB (c : Nat) (X : World) (q : Nat) : Prop where
  lt : q < X.heap.size
  ne : q ≠ c
  cv : ∀ j, j < 6 → ∃ z : Int, (fun _ : Int => True) z ∧ X.cell? ⟨q, j, none⟩ = some (.int .i64 z)
theorem InB.keep {c q : Nat} {X Y : World} (h : InB c X q) (k : Kp c X Y) : InB c Y q :=
  ⟨Nat.lt_of_lt_of_le h.lt k.big, h.ne, fun j hj => (h.cv j hj).elim fun z hz => ⟨z, hz.1, (k.cel _ _ h.lt h.ne).trans hz.2⟩⟩
theorem StB.mk0 {c : Nat} (X : World) (hc : c < X.heap.size) : StB c (X.alloc (.cells #[.string ⟨#[97]⟩, .string ⟨#[98, 111, 98]⟩, .string ⟨#[]⟩, .string ⟨#[110, 111, 100, 101, 45, 49]⟩] 9)) X.heap.size :=
  ⟨alloc_lt _ _, by omega, fun j hj => by
    match j, hj with
    | 0, _ => exact ⟨⟨#[97]⟩, by show 1 ≤ 100; omega, by simp [go_sem]⟩
    | 1, _ => exact ⟨⟨#[98, 111, 98]⟩, by show 3 ≤ 100; omega, by simp [go_sem]⟩
    | 2, _ => exact ⟨⟨#[]⟩, by show 0 ≤ 100; omega, by simp [go_sem]⟩
    | 3, _ => exact ⟨⟨#[110, 111, 100, 101, 45, 49]⟩, by show 6 ≤ 100; omega, by simp [go_sem]⟩⟩
theorem InB.mk0 {c : Nat} (X : World) (hc : c < X.heap.size) : InB c (X.alloc (.cells #[.int .i64 1, .int .i64 50, .int .i64 1000, .int .i64 1001, .int .i64 0, .int .i64 20] 3)) X.heap.size :=
  ⟨alloc_lt _ _, by omega, cells6 X 3 1 50 1000 1001 0 20⟩
theorem StB.drew {c q : Nat} {X : World} (h : StB c X q) : StB c X.drew q := h.keep (Kp.drew c X)
theorem InB.drew {c q : Nat} {X : World} (h : InB c X q) : InB c X.drew q := h.keep (Kp.drew c X)

set_option maxRecDepth 10000 in
set_option maxHeartbeats 8000000 in
theorem drawGrant_any (a : Option Addr) (len cap : Nat) (w : World) (hBy : Bytes w a len) (hl : len ≤ 1048576) :
    Calls Tryz.prog 6 #[.slice a len cap] w fun e w' => ∃ (b : Option Addr) (n d : Nat) (K N : Int) (ls : List Ls) (ad : Ad) (ow : ByteArray) (sp : Int), e = .returned (.tuple #[.agg #[.slice b n d, .int .i64 K, .int .i64 N], .agg #[.bool ad.s, .int .i64 ad.H.toInt, .int .i64 ad.L.toInt], .string ow, .int .i64 sp]) ∧ n = ls.length ∧ n ≤ 81 ∧ Sml ls ∧ ow.size ≤ 100 ∧ OwnG KLs 35 w' w.heap.size (.slice b n d) ls ∧ Below w.heap.size w w' := by
  have HBy := hidP hBy
  clear hBy
  go_enter Tryz.func6, Tryz.ntmps6
  go_wp2_with fail
  have zb1 := alloc_below w (.cells #[.slice none 0 0, .int .i64 0, .int .i64 0] 26)
  have zs1 : (w.alloc (.cells #[.slice none 0 0, .int .i64 0, .int .i64 0] 26)).heap.size = w.heap.size + 1 := by simp
  obtain ⟨q0, q1, q2⟩ := box3B w 26 (.slice none 0 0) (.int .i64 0) (.int .i64 0)
  have qF := frz3 w 26 (.slice none 0 0) (.int .i64 0) (.int .i64 0)
  generalize w.alloc (.cells #[.slice none 0 0, .int .i64 0, .int .i64 0] 26) = W1 at *
  have zb2 := alloc_below W1 (.cells #[.bool false, .int .i64 0, .int .i64 0] 28)
  have zs2 : (W1.alloc (.cells #[.bool false, .int .i64 0, .int .i64 0] 28)).heap.size = W1.heap.size + 1 := by simp
  obtain ⟨s0, s1, s2⟩ := box3B W1 28 (.bool false) (.int .i64 0) (.int .i64 0)
  have sF := frz3 W1 28 (.bool false) (.int .i64 0) (.int .i64 0)
  generalize W1.alloc (.cells #[.bool false, .int .i64 0, .int .i64 0] 28) = W2 at *
  rw [zs1] at s0 s1 s2 sF zs2
  have zz := zb1.trans (zb2.mono zb1.size)
  have hB1 : Bytes W2 a len := fun j hj => by
    obtain ⟨p, o, v, ha, hp, cv, v0, v9⟩ := HBy.out j hj
    exact ⟨p, o, v, ha, by omega, (zz.cell hp).trans cv, v0, v9⟩
  refine (l1New_any a len cap W2 hB1 hl).mono ?_
  rintro e w2 ⟨rfl, hC2, hb2, hs2⟩
  rw [zs2] at hC2
  have HO2 := hidP (show OgI w w2 a len cap from ⟨zz.trans (hb2.mono zz.size), hC2, (hb2.cell (by dsimp only; omega)).trans ((zb2.cell (by dsimp only; omega)).trans q0), (hb2.cell (by dsimp only; omega)).trans ((zb2.cell (by dsimp only; omega)).trans q1), (hb2.cell (by dsimp only; omega)).trans ((zb2.cell (by dsimp only; omega)).trans q2), (hb2.cell (by dsimp only; omega)).trans s0, (hb2.cell (by dsimp only; omega)).trans s1, (hb2.cell (by dsimp only; omega)).trans s2, fun o => (hb2.frozen (by dsimp only; omega)).trans ((zb2.frozen (by dsimp only; omega)).trans (qF o)), fun o => (hb2.frozen (by dsimp only; omega)).trans (sF o)⟩)
  rw [zs2]
  clear hB1 hC2 hb2 hs2 q0 q1 q2 qF s0 s1 s2 sF zb1 zs1 zb2 zs2 zz
  go_wp2_with fail
  refine (l1Size_any a len cap 16 (by omega) hl _).mono ?_
  rintro e w' ⟨⟨sz, sz0, sz9, rfl⟩, hw'⟩
  rw [hw']
  clear hw' w'
  go_wp2_with fail
  refine (l6DrawAny_any (w.heap.size + 2) a len cap sz _ HO2.out.cur sz0 (by omega)).mono ?_
  rintro e w3 ⟨b, n, d, K, N, ls, rfl, hn, h81, hs, ho3, hC3, hK3⟩
  have HO3 := hidP (HO2.out.keep hC3 hK3)
  have HW3 := hidP (OwnG.mono ho3 HO2.out.sz)
  have HN := hidP (And.intro hn hs)
  clear hn hs ho3 hC3 hK3 sz0 sz9
  go_wp2_with fail
  have HD4 := hidP (show OgB w (w3.alloc (.cells #[.slice b n d, .int .i64 K, .int .i64 N] 26)) a len cap w3.heap.size b n d K N ls from by
    have zb := alloc_below w3 (.cells #[.slice b n d, .int .i64 K, .int .i64 N] 26)
    exact ⟨HO3.out.below zb, HO3.out.sz, alloc_lt _ _, by simp [go_sem], by simp [go_sem], by simp [go_sem], fun o => by simp [go_sem], HW3.out.later zb, fun k hk => Nat.ne_of_lt (OwnG.lt HW3.out k hk).2⟩)
  generalize w3.alloc (.cells #[.slice b n d, .int .i64 K, .int .i64 N] 26) = W4 at *
  refine (l1Once_any (w.heap.size + 2) a len cap 60 _ HD4.out.op.cur).mono ?_
  rintro e w5 ⟨⟨B, rfl⟩, hC5, hK5⟩
  have HD5 := hidP (HD4.out.keep hC5 hK5)
  clear hC5 hK5 HD4 HO2 HO3 HW3
  cases B
  · go_wp2_with fail
    have HD5d := hidP (HD5.out.below (Below.refl _ _).drew)
    refine wp_region_held_drew (S := (fun X => X.cell? ⟨w3.heap.size, 0, none⟩ = some (.slice b n d) ∧ X.cell? ⟨w3.heap.size, 1, none⟩ = some (.int .i64 K) ∧ X.cell? ⟨w3.heap.size, 2, none⟩ = some (.int .i64 N))) (by kernel_rfl) ?_ (fun hHeld => ?_)
    · try dsimp only
      exact ⟨HD5d.out.d0, HD5d.out.d1, HD5d.out.d2⟩
    refine tkA 0 33 (v := ?_) rfl (by kernel_rfl) (fun _ _ _ h => h) (by rfl) ?_ (by assumption) ?_; rotate_left; · (intro w hSw; (try dsimp only at hSw); go_simp; try with_reducible rfl)
    simp only [Act.put, List.setIfInBounds_toArray, List.set_cons_zero, List.set_cons_succ]
    refine tkA 1 34 (v := ?_) rfl (by kernel_rfl) (fun _ _ _ h => h) (by rfl) ?_ (by assumption) ?_; rotate_left; · (intro w hSw; (try dsimp only at hSw); go_simp; try with_reducible rfl)
    simp only [Act.put, List.setIfInBounds_toArray, List.set_cons_zero, List.set_cons_succ]
    refine tkA 3 36 (v := ?_) rfl (by kernel_rfl) (fun _ _ _ h => h) (by rfl) ?_ (by assumption) ?_; rotate_left; · (intro w hSw; (try dsimp only at hSw); go_simp; try with_reducible rfl)
    simp only [Act.put, List.setIfInBounds_toArray, List.set_cons_zero, List.set_cons_succ]
    refine tkA 6 39 (v := ?_) rfl (by kernel_rfl) (fun _ _ _ h => h) (by rfl) ?_ (by assumption) ?_; rotate_left; · (intro w hSw; (try dsimp only at hSw); go_simp; try with_reducible rfl)
    simp only [Act.put, List.setIfInBounds_toArray, List.set_cons_zero, List.set_cons_succ]
    refine wpAnyH_ready (rs := [2, 4, 7]) (by kernel_rfl) (by simp) ?_
    refine AllReadyH.cons rfl (fun KK hK => ?_) (AllReadyH.cons rfl (fun KK hK => ?_) (AllReadyH.cons rfl (fun KK hK => ?_) AllReadyH.nil))
    · go_simp
      go_wp2_with (first | (go_at_call 21; refine (l6Addr_any (w.heap.size + 2) a len cap _ HD5d.out.op.cur).mono ?_; rintro e v20 ⟨⟨ad, rfl⟩, hC20, hK20⟩))
      have HE20 := hidP (HD5d.out.keep hC20 hK20)
      clear hC20 hK20
      refine hK.out _ _ ?_ (fun hHeld => ?_)
      · try dsimp only
        exact ⟨HE20.out.d0, HE20.out.d1, HE20.out.d2⟩
      clear hK KK
      refine wpAnyH_ready (rs := [4, 7]) (by kernel_rfl) (by simp) ?_
      refine AllReadyH.cons rfl (fun KK hK => ?_) (AllReadyH.cons rfl (fun KK hK => ?_) AllReadyH.nil)
      · go_simp
        have zb := alloc_below v20 (.cells #[.string ⟨#[97]⟩, .string ⟨#[98, 111, 98]⟩, .string ⟨#[]⟩, .string ⟨#[110, 111, 100, 101, 45, 49]⟩] 9)
        have hcl : w.heap.size + 2 < v20.heap.size := HE20.out.op.sz
        have hkp : Kp (w.heap.size + 2) v20 (v20.alloc (.cells #[.string ⟨#[97]⟩, .string ⟨#[98, 111, 98]⟩, .string ⟨#[]⟩, .string ⟨#[110, 111, 100, 101, 45, 49]⟩] 9)) := Kp.of_below hcl zb
        have HE21 := hidP (HE20.out.below zb)
        have Zs21 := hidP (StB.mk0 (c := w.heap.size + 2) v20 hcl)
        clear zb hcl hkp
        generalize v20.alloc (.cells #[.string ⟨#[97]⟩, .string ⟨#[98, 111, 98]⟩, .string ⟨#[]⟩, .string ⟨#[110, 111, 100, 101, 45, 49]⟩] 9) = v21 at *
        refine hK.out _ _ ?_ (fun hHeld => ?_)
        · try dsimp only
          exact ⟨HE21.out.d0, HE21.out.d1, HE21.out.d2⟩
        clear hK KK
        refine wpAnyH_ready (rs := [5, 7]) (by kernel_rfl) (by simp) ?_
        refine AllReadyH.cons rfl (fun KK hK => ?_) (AllReadyH.cons rfl (fun KK hK => ?_) AllReadyH.nil)
        · go_simp
          go_wp2_with (first | (go_at_call 22; refine (l1StrP_any (fun z => z.size ≤ 100) (w.heap.size + 2) a len cap v20.heap.size 4 _ HE21.out.op.cur (by omega) (by omega) Zs21.out.lt Zs21.out.ne Zs21.out.cv).mono ?_; rintro e v22 ⟨⟨ow, how, rfl⟩, hC22, hK22⟩))
          have HE22 := hidP (HE21.out.keep hC22 hK22)
          have Zs22 := hidP (Zs21.out.keep hK22)
          clear hC22 hK22
          refine hK.out _ _ ?_ (fun hHeld => ?_)
          · try dsimp only
            exact ⟨HE22.out.d0, HE22.out.d1, HE22.out.d2⟩
          clear hK KK
          refine wpAnyH_ready (rs := [7]) (by kernel_rfl) (by simp) ?_
          refine AllReadyH.cons rfl (fun KK hK => ?_) AllReadyH.nil
          go_simp
          have zb := alloc_below v22 (.cells #[.int .i64 1, .int .i64 50, .int .i64 1000, .int .i64 1001, .int .i64 0, .int .i64 20] 3)
          have hcl : w.heap.size + 2 < v22.heap.size := HE22.out.op.sz
          have hkp : Kp (w.heap.size + 2) v22 (v22.alloc (.cells #[.int .i64 1, .int .i64 50, .int .i64 1000, .int .i64 1001, .int .i64 0, .int .i64 20] 3)) := Kp.of_below hcl zb
          have HE23 := hidP (HE22.out.below zb)
          have Zs23 := hidP (Zs22.out.keep hkp)
          have Zi23 := hidP (InB.mk0 (c := w.heap.size + 2) v22 hcl)
          clear zb hcl hkp
          generalize v22.alloc (.cells #[.int .i64 1, .int .i64 50, .int .i64 1000, .int .i64 1001, .int .i64 0, .int .i64 20] 3) = v23 at *
          refine hK.out _ _ ?_ (fun hHeld => ?_)
          · try dsimp only
            exact ⟨HE23.out.d0, HE23.out.d1, HE23.out.d2⟩
          clear hK KK
          refine wpAnyH_ready (rs := [8]) (by kernel_rfl) (by simp) ?_
          refine AllReadyH.cons rfl (fun KK hK => ?_) AllReadyH.nil
          go_simp
          go_wp2_with (first | (go_at_call 23; refine (l1Int_any (fun _ => True) (w.heap.size + 2) a len cap v22.heap.size 6 _ HE23.out.op.cur (by omega) (by omega) Zi23.out.lt Zi23.out.ne Zi23.out.cv).mono ?_; rintro e v24 ⟨⟨z, _, rfl⟩, hC24, hK24⟩))
          have HE24 := hidP (HE23.out.keep hC24 hK24)
          have Zs24 := hidP (Zs23.out.keep hK24)
          have Zi24 := hidP (Zi23.out.keep hK24)
          clear hC24 hK24
          refine hK.out _ _ ?_ (fun hHeld => ?_)
          · try dsimp only
            exact ⟨HE24.out.d0, HE24.out.d1, HE24.out.d2⟩
          clear hK KK
          refine wpAnyH_ready (rs := [9]) (by kernel_rfl) (by simp) ?_
          refine AllReadyH.cons rfl (fun KK hK => ?_) AllReadyH.nil
          have q0 := HE24.out.op.r0
          have s0 := HE24.out.op.s0
          have q1 := HE24.out.op.r1
          have s1 := HE24.out.op.s1
          have q2 := HE24.out.op.r2
          have s2 := HE24.out.op.s2
          have qF := HE24.out.op.rF
          have sF := HE24.out.op.sF
          have hxB : w3.heap.size ≠ w.heap.size := by have := HE24.out.he; omega
          have hxA : w3.heap.size ≠ w.heap.size + 1 := by have := HE24.out.he; omega
          go_simp
          refine hK.out _ _ ?_ (fun hHeld => ?_)
          · try dsimp only
            exact ⟨(cell_set1 (cell_set1 (cell_set1 HE24.out.d0 hxB) hxB) hxB), (cell_set1 (cell_set1 (cell_set1 HE24.out.d1 hxB) hxB) hxB), (cell_set1 (cell_set1 (cell_set1 HE24.out.d2 hxB) hxB) hxB)⟩
          clear hK KK
          refine wpAnyH_ready (rs := [10]) (by kernel_rfl) (by simp) ?_
          refine AllReadyH.cons rfl (fun KK hK => ?_) AllReadyH.nil
          go_simp
          refine hK.out _ _ ?_ (fun hHeld => ?_)
          · try dsimp only
            exact ⟨(cell_set1 (cell_set1 (cell_set1 (cell_set1 (cell_set1 (cell_set1 HE24.out.d0 hxB) hxB) hxB) hxA) hxA) hxA), (cell_set1 (cell_set1 (cell_set1 (cell_set1 (cell_set1 (cell_set1 HE24.out.d1 hxB) hxB) hxB) hxA) hxA) hxA), (cell_set1 (cell_set1 (cell_set1 (cell_set1 (cell_set1 (cell_set1 HE24.out.d2 hxB) hxB) hxB) hxA) hxA) hxA)⟩
          clear hK KK
          refine tkA 11 4 (v := ?_) rfl (by kernel_rfl) (fun _ _ _ h => h) (by rfl) ?_ (by assumption) ?_; rotate_left; · (intro w hSw; (try dsimp only at hSw); go_simp; try with_reducible rfl)
          simp only [Act.put, List.setIfInBounds_toArray]
          refine tkA 12 5 (v := ?_) rfl (by kernel_rfl) (fun _ _ _ h => h) (by rfl) ?_ (by assumption) ?_; rotate_left; · (intro w hSw; (try dsimp only at hSw); go_simp; try with_reducible rfl)
          simp only [Act.put, List.setIfInBounds_toArray]
          refine wpAnyH_done (by kernel_rfl) ?_ _
          clear hHeld
          go_wp2_with fail
          refine bodyPost_ret (v := .tuple #[.agg #[.slice b n d, .int .i64 K, .int .i64 N], .agg #[.bool ad.s, .int .i64 ad.H.toInt, .int .i64 ad.L.toInt], .string ow, .int .i64 z]) (by simp [results, Tryz.results6, go_sem, q0, q1, q2, s0, s1, s2]) rfl ⟨b, n, d, K, N, ls, ad, ow, z, rfl, HN.out.1, h81, HN.out.2, how, ?_, ?_⟩
          · refine OwnG.mono (own_low (own_low (own_low (own_low (own_low (own_low HE24.out.own ?_) ?_) ?_) ?_) ?_) ?_) ?_ <;> omega
          · refine bel_low (bel_low (bel_low (bel_low (bel_low (bel_low HE24.out.op.acc ?_) ?_) ?_) ?_) ?_) ?_ <;> omega
        · go_simp
          have zb := alloc_below v21 (.cells #[.int .i64 1, .int .i64 50, .int .i64 1000, .int .i64 1001, .int .i64 0, .int .i64 20] 3)
          have hcl : w.heap.size + 2 < v21.heap.size := HE21.out.op.sz
          have hkp : Kp (w.heap.size + 2) v21 (v21.alloc (.cells #[.int .i64 1, .int .i64 50, .int .i64 1000, .int .i64 1001, .int .i64 0, .int .i64 20] 3)) := Kp.of_below hcl zb
          have HE22 := hidP (HE21.out.below zb)
          have Zs22 := hidP (Zs21.out.keep hkp)
          have Zi22 := hidP (InB.mk0 (c := w.heap.size + 2) v21 hcl)
          clear zb hcl hkp
          generalize v21.alloc (.cells #[.int .i64 1, .int .i64 50, .int .i64 1000, .int .i64 1001, .int .i64 0, .int .i64 20] 3) = v22 at *
          refine hK.out _ _ ?_ (fun hHeld => ?_)
          · try dsimp only
            exact ⟨HE22.out.d0, HE22.out.d1, HE22.out.d2⟩
          clear hK KK
          refine wpAnyH_ready (rs := [5]) (by kernel_rfl) (by simp) ?_
          refine AllReadyH.cons rfl (fun KK hK => ?_) AllReadyH.nil
          go_simp
          go_wp2_with (first | (go_at_call 22; refine (l1StrP_any (fun z => z.size ≤ 100) (w.heap.size + 2) a len cap v20.heap.size 4 _ HE22.out.op.cur (by omega) (by omega) Zs22.out.lt Zs22.out.ne Zs22.out.cv).mono ?_; rintro e v23 ⟨⟨ow, how, rfl⟩, hC23, hK23⟩))
          have HE23 := hidP (HE22.out.keep hC23 hK23)
          have Zs23 := hidP (Zs22.out.keep hK23)
          have Zi23 := hidP (Zi22.out.keep hK23)
          clear hC23 hK23
          refine hK.out _ _ ?_ (fun hHeld => ?_)
          · try dsimp only
            exact ⟨HE23.out.d0, HE23.out.d1, HE23.out.d2⟩
          clear hK KK
          refine wpAnyH_ready (rs := [8]) (by kernel_rfl) (by simp) ?_
          refine AllReadyH.cons rfl (fun KK hK => ?_) AllReadyH.nil
          go_simp
          go_wp2_with (first | (go_at_call 23; refine (l1Int_any (fun _ => True) (w.heap.size + 2) a len cap v21.heap.size 6 _ HE23.out.op.cur (by omega) (by omega) Zi23.out.lt Zi23.out.ne Zi23.out.cv).mono ?_; rintro e v24 ⟨⟨z, _, rfl⟩, hC24, hK24⟩))
          have HE24 := hidP (HE23.out.keep hC24 hK24)
          have Zs24 := hidP (Zs23.out.keep hK24)
          have Zi24 := hidP (Zi23.out.keep hK24)
          clear hC24 hK24
          refine hK.out _ _ ?_ (fun hHeld => ?_)
          · try dsimp only
            exact ⟨HE24.out.d0, HE24.out.d1, HE24.out.d2⟩
          clear hK KK
          refine wpAnyH_ready (rs := [9]) (by kernel_rfl) (by simp) ?_
          refine AllReadyH.cons rfl (fun KK hK => ?_) AllReadyH.nil
          have q0 := HE24.out.op.r0
          have s0 := HE24.out.op.s0
          have q1 := HE24.out.op.r1
          have s1 := HE24.out.op.s1
          have q2 := HE24.out.op.r2
          have s2 := HE24.out.op.s2
          have qF := HE24.out.op.rF
          have sF := HE24.out.op.sF
          have hxB : w3.heap.size ≠ w.heap.size := by have := HE24.out.he; omega
          have hxA : w3.heap.size ≠ w.heap.size + 1 := by have := HE24.out.he; omega
          go_simp
          refine hK.out _ _ ?_ (fun hHeld => ?_)
          · try dsimp only
            exact ⟨(cell_set1 (cell_set1 (cell_set1 HE24.out.d0 hxB) hxB) hxB), (cell_set1 (cell_set1 (cell_set1 HE24.out.d1 hxB) hxB) hxB), (cell_set1 (cell_set1 (cell_set1 HE24.out.d2 hxB) hxB) hxB)⟩
          clear hK KK
          refine wpAnyH_ready (rs := [10]) (by kernel_rfl) (by simp) ?_
          refine AllReadyH.cons rfl (fun KK hK => ?_) AllReadyH.nil
          go_simp
          refine hK.out _ _ ?_ (fun hHeld => ?_)
          · try dsimp only
            exact ⟨(cell_set1 (cell_set1 (cell_set1 (cell_set1 (cell_set1 (cell_set1 HE24.out.d0 hxB) hxB) hxB) hxA) hxA) hxA), (cell_set1 (cell_set1 (cell_set1 (cell_set1 (cell_set1 (cell_set1 HE24.out.d1 hxB) hxB) hxB) hxA) hxA) hxA), (cell_set1 (cell_set1 (cell_set1 (cell_set1 (cell_set1 (cell_set1 HE24.out.d2 hxB) hxB) hxB) hxA) hxA) hxA)⟩
          clear hK KK
          refine tkA 11 4 (v := ?_) rfl (by kernel_rfl) (fun _ _ _ h => h) (by rfl) ?_ (by assumption) ?_; rotate_left; · (intro w hSw; (try dsimp only at hSw); go_simp; try with_reducible rfl)
          simp only [Act.put, List.setIfInBounds_toArray]
          refine tkA 12 5 (v := ?_) rfl (by kernel_rfl) (fun _ _ _ h => h) (by rfl) ?_ (by assumption) ?_; rotate_left; · (intro w hSw; (try dsimp only at hSw); go_simp; try with_reducible rfl)
          simp only [Act.put, List.setIfInBounds_toArray]
          refine wpAnyH_done (by kernel_rfl) ?_ _
          clear hHeld
          go_wp2_with fail
          refine bodyPost_ret (v := .tuple #[.agg #[.slice b n d, .int .i64 K, .int .i64 N], .agg #[.bool ad.s, .int .i64 ad.H.toInt, .int .i64 ad.L.toInt], .string ow, .int .i64 z]) (by simp [results, Tryz.results6, go_sem, q0, q1, q2, s0, s1, s2]) rfl ⟨b, n, d, K, N, ls, ad, ow, z, rfl, HN.out.1, h81, HN.out.2, how, ?_, ?_⟩
          · refine OwnG.mono (own_low (own_low (own_low (own_low (own_low (own_low HE24.out.own ?_) ?_) ?_) ?_) ?_) ?_) ?_ <;> omega
          · refine bel_low (bel_low (bel_low (bel_low (bel_low (bel_low HE24.out.op.acc ?_) ?_) ?_) ?_) ?_) ?_ <;> omega
      · go_simp
        have zb := alloc_below v20 (.cells #[.int .i64 1, .int .i64 50, .int .i64 1000, .int .i64 1001, .int .i64 0, .int .i64 20] 3)
        have hcl : w.heap.size + 2 < v20.heap.size := HE20.out.op.sz
        have hkp : Kp (w.heap.size + 2) v20 (v20.alloc (.cells #[.int .i64 1, .int .i64 50, .int .i64 1000, .int .i64 1001, .int .i64 0, .int .i64 20] 3)) := Kp.of_below hcl zb
        have HE21 := hidP (HE20.out.below zb)
        have Zi21 := hidP (InB.mk0 (c := w.heap.size + 2) v20 hcl)
        clear zb hcl hkp
        generalize v20.alloc (.cells #[.int .i64 1, .int .i64 50, .int .i64 1000, .int .i64 1001, .int .i64 0, .int .i64 20] 3) = v21 at *
        refine hK.out _ _ ?_ (fun hHeld => ?_)
        · try dsimp only
          exact ⟨HE21.out.d0, HE21.out.d1, HE21.out.d2⟩
        clear hK KK
        refine wpAnyH_ready (rs := [4]) (by kernel_rfl) (by simp) ?_
        refine AllReadyH.cons rfl (fun KK hK => ?_) AllReadyH.nil
        go_simp
        have zb := alloc_below v21 (.cells #[.string ⟨#[97]⟩, .string ⟨#[98, 111, 98]⟩, .string ⟨#[]⟩, .string ⟨#[110, 111, 100, 101, 45, 49]⟩] 9)
        have hcl : w.heap.size + 2 < v21.heap.size := HE21.out.op.sz
        have hkp : Kp (w.heap.size + 2) v21 (v21.alloc (.cells #[.string ⟨#[97]⟩, .string ⟨#[98, 111, 98]⟩, .string ⟨#[]⟩, .string ⟨#[110, 111, 100, 101, 45, 49]⟩] 9)) := Kp.of_below hcl zb
        have HE22 := hidP (HE21.out.below zb)
        have Zi22 := hidP (Zi21.out.keep hkp)
        have Zs22 := hidP (StB.mk0 (c := w.heap.size + 2) v21 hcl)
        clear zb hcl hkp
        generalize v21.alloc (.cells #[.string ⟨#[97]⟩, .string ⟨#[98, 111, 98]⟩, .string ⟨#[]⟩, .string ⟨#[110, 111, 100, 101, 45, 49]⟩] 9) = v22 at *
        refine hK.out _ _ ?_ (fun hHeld => ?_)
        · try dsimp only
          exact ⟨HE22.out.d0, HE22.out.d1, HE22.out.d2⟩
        clear hK KK
        refine wpAnyH_ready (rs := [5]) (by kernel_rfl) (by simp) ?_
        refine AllReadyH.cons rfl (fun KK hK => ?_) AllReadyH.nil
        go_simp
        go_wp2_with (first | (go_at_call 22; refine (l1StrP_any (fun z => z.size ≤ 100) (w.heap.size + 2) a len cap v21.heap.size 4 _ HE22.out.op.cur (by omega) (by omega) Zs22.out.lt Zs22.out.ne Zs22.out.cv).mono ?_; rintro e v23 ⟨⟨ow, how, rfl⟩, hC23, hK23⟩))
        have HE23 := hidP (HE22.out.keep hC23 hK23)
        have Zs23 := hidP (Zs22.out.keep hK23)
        have Zi23 := hidP (Zi22.out.keep hK23)
        clear hC23 hK23
        refine hK.out _ _ ?_ (fun hHeld => ?_)
        · try dsimp only
          exact ⟨HE23.out.d0, HE23.out.d1, HE23.out.d2⟩
        clear hK KK
        refine wpAnyH_ready (rs := [8]) (by kernel_rfl) (by simp) ?_
        refine AllReadyH.cons rfl (fun KK hK => ?_) AllReadyH.nil
        go_simp
        go_wp2_with (first | (go_at_call 23; refine (l1Int_any (fun _ => True) (w.heap.size + 2) a len cap v20.heap.size 6 _ HE23.out.op.cur (by omega) (by omega) Zi23.out.lt Zi23.out.ne Zi23.out.cv).mono ?_; rintro e v24 ⟨⟨z, _, rfl⟩, hC24, hK24⟩))
        have HE24 := hidP (HE23.out.keep hC24 hK24)
        have Zs24 := hidP (Zs23.out.keep hK24)
        have Zi24 := hidP (Zi23.out.keep hK24)
        clear hC24 hK24
        refine hK.out _ _ ?_ (fun hHeld => ?_)
        · try dsimp only
          exact ⟨HE24.out.d0, HE24.out.d1, HE24.out.d2⟩
        clear hK KK
        refine wpAnyH_ready (rs := [9]) (by kernel_rfl) (by simp) ?_
        refine AllReadyH.cons rfl (fun KK hK => ?_) AllReadyH.nil
        have q0 := HE24.out.op.r0
        have s0 := HE24.out.op.s0
        have q1 := HE24.out.op.r1
        have s1 := HE24.out.op.s1
        have q2 := HE24.out.op.r2
        have s2 := HE24.out.op.s2
        have qF := HE24.out.op.rF
        have sF := HE24.out.op.sF
        have hxB : w3.heap.size ≠ w.heap.size := by have := HE24.out.he; omega
        have hxA : w3.heap.size ≠ w.heap.size + 1 := by have := HE24.out.he; omega
        go_simp
        refine hK.out _ _ ?_ (fun hHeld => ?_)
        · try dsimp only
          exact ⟨(cell_set1 (cell_set1 (cell_set1 HE24.out.d0 hxB) hxB) hxB), (cell_set1 (cell_set1 (cell_set1 HE24.out.d1 hxB) hxB) hxB), (cell_set1 (cell_set1 (cell_set1 HE24.out.d2 hxB) hxB) hxB)⟩
        clear hK KK
        refine wpAnyH_ready (rs := [10]) (by kernel_rfl) (by simp) ?_
        refine AllReadyH.cons rfl (fun KK hK => ?_) AllReadyH.nil
        go_simp
        refine hK.out _ _ ?_ (fun hHeld => ?_)
        · try dsimp only
          exact ⟨(cell_set1 (cell_set1 (cell_set1 (cell_set1 (cell_set1 (cell_set1 HE24.out.d0 hxB) hxB) hxB) hxA) hxA) hxA), (cell_set1 (cell_set1 (cell_set1 (cell_set1 (cell_set1 (cell_set1 HE24.out.d1 hxB) hxB) hxB) hxA) hxA) hxA), (cell_set1 (cell_set1 (cell_set1 (cell_set1 (cell_set1 (cell_set1 HE24.out.d2 hxB) hxB) hxB) hxA) hxA) hxA)⟩
        clear hK KK
        refine tkA 11 4 (v := ?_) rfl (by kernel_rfl) (fun _ _ _ h => h) (by rfl) ?_ (by assumption) ?_; rotate_left; · (intro w hSw; (try dsimp only at hSw); go_simp; try with_reducible rfl)
        simp only [Act.put, List.setIfInBounds_toArray]
        refine tkA 12 5 (v := ?_) rfl (by kernel_rfl) (fun _ _ _ h => h) (by rfl) ?_ (by assumption) ?_; rotate_left; · (intro w hSw; (try dsimp only at hSw); go_simp; try with_reducible rfl)
        simp only [Act.put, List.setIfInBounds_toArray]
        refine wpAnyH_done (by kernel_rfl) ?_ _
        clear hHeld
        go_wp2_with fail
        refine bodyPost_ret (v := .tuple #[.agg #[.slice b n d, .int .i64 K, .int .i64 N], .agg #[.bool ad.s, .int .i64 ad.H.toInt, .int .i64 ad.L.toInt], .string ow, .int .i64 z]) (by simp [results, Tryz.results6, go_sem, q0, q1, q2, s0, s1, s2]) rfl ⟨b, n, d, K, N, ls, ad, ow, z, rfl, HN.out.1, h81, HN.out.2, how, ?_, ?_⟩
        · refine OwnG.mono (own_low (own_low (own_low (own_low (own_low (own_low HE24.out.own ?_) ?_) ?_) ?_) ?_) ?_) ?_ <;> omega
        · refine bel_low (bel_low (bel_low (bel_low (bel_low (bel_low HE24.out.op.acc ?_) ?_) ?_) ?_) ?_) ?_ <;> omega
    · go_simp
      have zb := (alloc_below w5 (.cells #[.string ⟨#[97]⟩, .string ⟨#[98, 111, 98]⟩, .string ⟨#[]⟩, .string ⟨#[110, 111, 100, 101, 45, 49]⟩] 9)).drew
      have hcl : w.heap.size + 2 < w5.heap.size := HD5.out.op.sz
      have hkp : Kp (w.heap.size + 2) w5 ((w5.alloc (.cells #[.string ⟨#[97]⟩, .string ⟨#[98, 111, 98]⟩, .string ⟨#[]⟩, .string ⟨#[110, 111, 100, 101, 45, 49]⟩] 9)).drew) := Kp.of_below hcl zb
      have HE20 := hidP (HD5.out.below zb)
      have Zs20 := hidP ((StB.mk0 (c := w.heap.size + 2) w5 hcl).drew)
      clear zb hcl hkp
      generalize (w5.alloc (.cells #[.string ⟨#[97]⟩, .string ⟨#[98, 111, 98]⟩, .string ⟨#[]⟩, .string ⟨#[110, 111, 100, 101, 45, 49]⟩] 9)).drew = v20 at *
      refine hK.out _ _ ?_ (fun hHeld => ?_)
      · try dsimp only
        exact ⟨HE20.out.d0, HE20.out.d1, HE20.out.d2⟩
      clear hK KK
      refine wpAnyH_ready (rs := [2, 7]) (by kernel_rfl) (by simp) ?_
      refine AllReadyH.cons rfl (fun KK hK => ?_) (AllReadyH.cons rfl (fun KK hK => ?_) AllReadyH.nil)
      · go_simp
        go_wp2_with (first | (go_at_call 21; refine (l6Addr_any (w.heap.size + 2) a len cap _ HE20.out.op.cur).mono ?_; rintro e v21 ⟨⟨ad, rfl⟩, hC21, hK21⟩))
        have HE21 := hidP (HE20.out.keep hC21 hK21)
        have Zs21 := hidP (Zs20.out.keep hK21)
        clear hC21 hK21
        refine hK.out _ _ ?_ (fun hHeld => ?_)
        · try dsimp only
          exact ⟨HE21.out.d0, HE21.out.d1, HE21.out.d2⟩
        clear hK KK
        refine wpAnyH_ready (rs := [5, 7]) (by kernel_rfl) (by simp) ?_
        refine AllReadyH.cons rfl (fun KK hK => ?_) (AllReadyH.cons rfl (fun KK hK => ?_) AllReadyH.nil)
        · go_simp
          go_wp2_with (first | (go_at_call 22; refine (l1StrP_any (fun z => z.size ≤ 100) (w.heap.size + 2) a len cap w5.heap.size 4 _ HE21.out.op.cur (by omega) (by omega) Zs21.out.lt Zs21.out.ne Zs21.out.cv).mono ?_; rintro e v22 ⟨⟨ow, how, rfl⟩, hC22, hK22⟩))
          have HE22 := hidP (HE21.out.keep hC22 hK22)
          have Zs22 := hidP (Zs21.out.keep hK22)
          clear hC22 hK22
          refine hK.out _ _ ?_ (fun hHeld => ?_)
          · try dsimp only
            exact ⟨HE22.out.d0, HE22.out.d1, HE22.out.d2⟩
          clear hK KK
          refine wpAnyH_ready (rs := [7]) (by kernel_rfl) (by simp) ?_
          refine AllReadyH.cons rfl (fun KK hK => ?_) AllReadyH.nil
          go_simp
          have zb := alloc_below v22 (.cells #[.int .i64 1, .int .i64 50, .int .i64 1000, .int .i64 1001, .int .i64 0, .int .i64 20] 3)
          have hcl : w.heap.size + 2 < v22.heap.size := HE22.out.op.sz
          have hkp : Kp (w.heap.size + 2) v22 (v22.alloc (.cells #[.int .i64 1, .int .i64 50, .int .i64 1000, .int .i64 1001, .int .i64 0, .int .i64 20] 3)) := Kp.of_below hcl zb
          have HE23 := hidP (HE22.out.below zb)
          have Zs23 := hidP (Zs22.out.keep hkp)
          have Zi23 := hidP (InB.mk0 (c := w.heap.size + 2) v22 hcl)
          clear zb hcl hkp
          generalize v22.alloc (.cells #[.int .i64 1, .int .i64 50, .int .i64 1000, .int .i64 1001, .int .i64 0, .int .i64 20] 3) = v23 at *
          refine hK.out _ _ ?_ (fun hHeld => ?_)
          · try dsimp only
            exact ⟨HE23.out.d0, HE23.out.d1, HE23.out.d2⟩
          clear hK KK
          refine wpAnyH_ready (rs := [8]) (by kernel_rfl) (by simp) ?_
          refine AllReadyH.cons rfl (fun KK hK => ?_) AllReadyH.nil
          go_simp
          go_wp2_with (first | (go_at_call 23; refine (l1Int_any (fun _ => True) (w.heap.size + 2) a len cap v22.heap.size 6 _ HE23.out.op.cur (by omega) (by omega) Zi23.out.lt Zi23.out.ne Zi23.out.cv).mono ?_; rintro e v24 ⟨⟨z, _, rfl⟩, hC24, hK24⟩))
          have HE24 := hidP (HE23.out.keep hC24 hK24)
          have Zs24 := hidP (Zs23.out.keep hK24)
          have Zi24 := hidP (Zi23.out.keep hK24)
          clear hC24 hK24
          refine hK.out _ _ ?_ (fun hHeld => ?_)
          · try dsimp only
            exact ⟨HE24.out.d0, HE24.out.d1, HE24.out.d2⟩
          clear hK KK
          refine wpAnyH_ready (rs := [9]) (by kernel_rfl) (by simp) ?_
          refine AllReadyH.cons rfl (fun KK hK => ?_) AllReadyH.nil
          have q0 := HE24.out.op.r0
          have s0 := HE24.out.op.s0
          have q1 := HE24.out.op.r1
          have s1 := HE24.out.op.s1
          have q2 := HE24.out.op.r2
          have s2 := HE24.out.op.s2
          have qF := HE24.out.op.rF
          have sF := HE24.out.op.sF
          have hxB : w3.heap.size ≠ w.heap.size := by have := HE24.out.he; omega
          have hxA : w3.heap.size ≠ w.heap.size + 1 := by have := HE24.out.he; omega
          go_simp
          refine hK.out _ _ ?_ (fun hHeld => ?_)
          · try dsimp only
            exact ⟨(cell_set1 (cell_set1 (cell_set1 HE24.out.d0 hxB) hxB) hxB), (cell_set1 (cell_set1 (cell_set1 HE24.out.d1 hxB) hxB) hxB), (cell_set1 (cell_set1 (cell_set1 HE24.out.d2 hxB) hxB) hxB)⟩
          clear hK KK
          refine wpAnyH_ready (rs := [10]) (by kernel_rfl) (by simp) ?_
          refine AllReadyH.cons rfl (fun KK hK => ?_) AllReadyH.nil
          go_simp
          refine hK.out _ _ ?_ (fun hHeld => ?_)
          · try dsimp only
            exact ⟨(cell_set1 (cell_set1 (cell_set1 (cell_set1 (cell_set1 (cell_set1 HE24.out.d0 hxB) hxB) hxB) hxA) hxA) hxA), (cell_set1 (cell_set1 (cell_set1 (cell_set1 (cell_set1 (cell_set1 HE24.out.d1 hxB) hxB) hxB) hxA) hxA) hxA), (cell_set1 (cell_set1 (cell_set1 (cell_set1 (cell_set1 (cell_set1 HE24.out.d2 hxB) hxB) hxB) hxA) hxA) hxA)⟩
          clear hK KK
          refine tkA 11 4 (v := ?_) rfl (by kernel_rfl) (fun _ _ _ h => h) (by rfl) ?_ (by assumption) ?_; rotate_left; · (intro w hSw; (try dsimp only at hSw); go_simp; try with_reducible rfl)
          simp only [Act.put, List.setIfInBounds_toArray]
          refine tkA 12 5 (v := ?_) rfl (by kernel_rfl) (fun _ _ _ h => h) (by rfl) ?_ (by assumption) ?_; rotate_left; · (intro w hSw; (try dsimp only at hSw); go_simp; try with_reducible rfl)
          simp only [Act.put, List.setIfInBounds_toArray]
          refine wpAnyH_done (by kernel_rfl) ?_ _
          clear hHeld
          go_wp2_with fail
          refine bodyPost_ret (v := .tuple #[.agg #[.slice b n d, .int .i64 K, .int .i64 N], .agg #[.bool ad.s, .int .i64 ad.H.toInt, .int .i64 ad.L.toInt], .string ow, .int .i64 z]) (by simp [results, Tryz.results6, go_sem, q0, q1, q2, s0, s1, s2]) rfl ⟨b, n, d, K, N, ls, ad, ow, z, rfl, HN.out.1, h81, HN.out.2, how, ?_, ?_⟩
          · refine OwnG.mono (own_low (own_low (own_low (own_low (own_low (own_low HE24.out.own ?_) ?_) ?_) ?_) ?_) ?_) ?_ <;> omega
          · refine bel_low (bel_low (bel_low (bel_low (bel_low (bel_low HE24.out.op.acc ?_) ?_) ?_) ?_) ?_) ?_ <;> omega
        · go_simp
          have zb := alloc_below v21 (.cells #[.int .i64 1, .int .i64 50, .int .i64 1000, .int .i64 1001, .int .i64 0, .int .i64 20] 3)
          have hcl : w.heap.size + 2 < v21.heap.size := HE21.out.op.sz
          have hkp : Kp (w.heap.size + 2) v21 (v21.alloc (.cells #[.int .i64 1, .int .i64 50, .int .i64 1000, .int .i64 1001, .int .i64 0, .int .i64 20] 3)) := Kp.of_below hcl zb
          have HE22 := hidP (HE21.out.below zb)
          have Zs22 := hidP (Zs21.out.keep hkp)
          have Zi22 := hidP (InB.mk0 (c := w.heap.size + 2) v21 hcl)
          clear zb hcl hkp
          generalize v21.alloc (.cells #[.int .i64 1, .int .i64 50, .int .i64 1000, .int .i64 1001, .int .i64 0, .int .i64 20] 3) = v22 at *
          refine hK.out _ _ ?_ (fun hHeld => ?_)
          · try dsimp only
            exact ⟨HE22.out.d0, HE22.out.d1, HE22.out.d2⟩
          clear hK KK
          refine wpAnyH_ready (rs := [5]) (by kernel_rfl) (by simp) ?_
          refine AllReadyH.cons rfl (fun KK hK => ?_) AllReadyH.nil
          go_simp
          go_wp2_with (first | (go_at_call 22; refine (l1StrP_any (fun z => z.size ≤ 100) (w.heap.size + 2) a len cap w5.heap.size 4 _ HE22.out.op.cur (by omega) (by omega) Zs22.out.lt Zs22.out.ne Zs22.out.cv).mono ?_; rintro e v23 ⟨⟨ow, how, rfl⟩, hC23, hK23⟩))
          have HE23 := hidP (HE22.out.keep hC23 hK23)
          have Zs23 := hidP (Zs22.out.keep hK23)
          have Zi23 := hidP (Zi22.out.keep hK23)
          clear hC23 hK23
          refine hK.out _ _ ?_ (fun hHeld => ?_)
          · try dsimp only
            exact ⟨HE23.out.d0, HE23.out.d1, HE23.out.d2⟩
          clear hK KK
          refine wpAnyH_ready (rs := [8]) (by kernel_rfl) (by simp) ?_
          refine AllReadyH.cons rfl (fun KK hK => ?_) AllReadyH.nil
          go_simp
          go_wp2_with (first | (go_at_call 23; refine (l1Int_any (fun _ => True) (w.heap.size + 2) a len cap v21.heap.size 6 _ HE23.out.op.cur (by omega) (by omega) Zi23.out.lt Zi23.out.ne Zi23.out.cv).mono ?_; rintro e v24 ⟨⟨z, _, rfl⟩, hC24, hK24⟩))
          have HE24 := hidP (HE23.out.keep hC24 hK24)
          have Zs24 := hidP (Zs23.out.keep hK24)
          have Zi24 := hidP (Zi23.out.keep hK24)
          clear hC24 hK24
          refine hK.out _ _ ?_ (fun hHeld => ?_)
          · try dsimp only
            exact ⟨HE24.out.d0, HE24.out.d1, HE24.out.d2⟩
          clear hK KK
          refine wpAnyH_ready (rs := [9]) (by kernel_rfl) (by simp) ?_
          refine AllReadyH.cons rfl (fun KK hK => ?_) AllReadyH.nil
          have q0 := HE24.out.op.r0
          have s0 := HE24.out.op.s0
          have q1 := HE24.out.op.r1
          have s1 := HE24.out.op.s1
          have q2 := HE24.out.op.r2
          have s2 := HE24.out.op.s2
          have qF := HE24.out.op.rF
          have sF := HE24.out.op.sF
          have hxB : w3.heap.size ≠ w.heap.size := by have := HE24.out.he; omega
          have hxA : w3.heap.size ≠ w.heap.size + 1 := by have := HE24.out.he; omega
          go_simp
          refine hK.out _ _ ?_ (fun hHeld => ?_)
          · try dsimp only
            exact ⟨(cell_set1 (cell_set1 (cell_set1 HE24.out.d0 hxB) hxB) hxB), (cell_set1 (cell_set1 (cell_set1 HE24.out.d1 hxB) hxB) hxB), (cell_set1 (cell_set1 (cell_set1 HE24.out.d2 hxB) hxB) hxB)⟩
          clear hK KK
          refine wpAnyH_ready (rs := [10]) (by kernel_rfl) (by simp) ?_
          refine AllReadyH.cons rfl (fun KK hK => ?_) AllReadyH.nil
          go_simp
          refine hK.out _ _ ?_ (fun hHeld => ?_)
          · try dsimp only
            exact ⟨(cell_set1 (cell_set1 (cell_set1 (cell_set1 (cell_set1 (cell_set1 HE24.out.d0 hxB) hxB) hxB) hxA) hxA) hxA), (cell_set1 (cell_set1 (cell_set1 (cell_set1 (cell_set1 (cell_set1 HE24.out.d1 hxB) hxB) hxB) hxA) hxA) hxA), (cell_set1 (cell_set1 (cell_set1 (cell_set1 (cell_set1 (cell_set1 HE24.out.d2 hxB) hxB) hxB) hxA) hxA) hxA)⟩
          clear hK KK
          refine tkA 11 4 (v := ?_) rfl (by kernel_rfl) (fun _ _ _ h => h) (by rfl) ?_ (by assumption) ?_; rotate_left; · (intro w hSw; (try dsimp only at hSw); go_simp; try with_reducible rfl)
          simp only [Act.put, List.setIfInBounds_toArray]
          refine tkA 12 5 (v := ?_) rfl (by kernel_rfl) (fun _ _ _ h => h) (by rfl) ?_ (by assumption) ?_; rotate_left; · (intro w hSw; (try dsimp only at hSw); go_simp; try with_reducible rfl)
          simp only [Act.put, List.setIfInBounds_toArray]
          refine wpAnyH_done (by kernel_rfl) ?_ _
          clear hHeld
          go_wp2_with fail
          refine bodyPost_ret (v := .tuple #[.agg #[.slice b n d, .int .i64 K, .int .i64 N], .agg #[.bool ad.s, .int .i64 ad.H.toInt, .int .i64 ad.L.toInt], .string ow, .int .i64 z]) (by simp [results, Tryz.results6, go_sem, q0, q1, q2, s0, s1, s2]) rfl ⟨b, n, d, K, N, ls, ad, ow, z, rfl, HN.out.1, h81, HN.out.2, how, ?_, ?_⟩
          · refine OwnG.mono (own_low (own_low (own_low (own_low (own_low (own_low HE24.out.own ?_) ?_) ?_) ?_) ?_) ?_) ?_ <;> omega
          · refine bel_low (bel_low (bel_low (bel_low (bel_low (bel_low HE24.out.op.acc ?_) ?_) ?_) ?_) ?_) ?_ <;> omega
      · go_simp
        have zb := alloc_below v20 (.cells #[.int .i64 1, .int .i64 50, .int .i64 1000, .int .i64 1001, .int .i64 0, .int .i64 20] 3)
        have hcl : w.heap.size + 2 < v20.heap.size := HE20.out.op.sz
        have hkp : Kp (w.heap.size + 2) v20 (v20.alloc (.cells #[.int .i64 1, .int .i64 50, .int .i64 1000, .int .i64 1001, .int .i64 0, .int .i64 20] 3)) := Kp.of_below hcl zb
        have HE21 := hidP (HE20.out.below zb)
        have Zs21 := hidP (Zs20.out.keep hkp)
        have Zi21 := hidP (InB.mk0 (c := w.heap.size + 2) v20 hcl)
        clear zb hcl hkp
        generalize v20.alloc (.cells #[.int .i64 1, .int .i64 50, .int .i64 1000, .int .i64 1001, .int .i64 0, .int .i64 20] 3) = v21 at *
        refine hK.out _ _ ?_ (fun hHeld => ?_)
        · try dsimp only
          exact ⟨HE21.out.d0, HE21.out.d1, HE21.out.d2⟩
        clear hK KK
        refine wpAnyH_ready (rs := [2]) (by kernel_rfl) (by simp) ?_
        refine AllReadyH.cons rfl (fun KK hK => ?_) AllReadyH.nil
        go_simp
        go_wp2_with (first | (go_at_call 21; refine (l6Addr_any (w.heap.size + 2) a len cap _ HE21.out.op.cur).mono ?_; rintro e v22 ⟨⟨ad, rfl⟩, hC22, hK22⟩))
        have HE22 := hidP (HE21.out.keep hC22 hK22)
        have Zs22 := hidP (Zs21.out.keep hK22)
        have Zi22 := hidP (Zi21.out.keep hK22)
        clear hC22 hK22
        refine hK.out _ _ ?_ (fun hHeld => ?_)
        · try dsimp only
          exact ⟨HE22.out.d0, HE22.out.d1, HE22.out.d2⟩
        clear hK KK
        refine wpAnyH_ready (rs := [5]) (by kernel_rfl) (by simp) ?_
        refine AllReadyH.cons rfl (fun KK hK => ?_) AllReadyH.nil
        go_simp
        go_wp2_with (first | (go_at_call 22; refine (l1StrP_any (fun z => z.size ≤ 100) (w.heap.size + 2) a len cap w5.heap.size 4 _ HE22.out.op.cur (by omega) (by omega) Zs22.out.lt Zs22.out.ne Zs22.out.cv).mono ?_; rintro e v23 ⟨⟨ow, how, rfl⟩, hC23, hK23⟩))
        have HE23 := hidP (HE22.out.keep hC23 hK23)
        have Zs23 := hidP (Zs22.out.keep hK23)
        have Zi23 := hidP (Zi22.out.keep hK23)
        clear hC23 hK23
        refine hK.out _ _ ?_ (fun hHeld => ?_)
        · try dsimp only
          exact ⟨HE23.out.d0, HE23.out.d1, HE23.out.d2⟩
        clear hK KK
        refine wpAnyH_ready (rs := [8]) (by kernel_rfl) (by simp) ?_
        refine AllReadyH.cons rfl (fun KK hK => ?_) AllReadyH.nil
        go_simp
        go_wp2_with (first | (go_at_call 23; refine (l1Int_any (fun _ => True) (w.heap.size + 2) a len cap v20.heap.size 6 _ HE23.out.op.cur (by omega) (by omega) Zi23.out.lt Zi23.out.ne Zi23.out.cv).mono ?_; rintro e v24 ⟨⟨z, _, rfl⟩, hC24, hK24⟩))
        have HE24 := hidP (HE23.out.keep hC24 hK24)
        have Zs24 := hidP (Zs23.out.keep hK24)
        have Zi24 := hidP (Zi23.out.keep hK24)
        clear hC24 hK24
        refine hK.out _ _ ?_ (fun hHeld => ?_)
        · try dsimp only
          exact ⟨HE24.out.d0, HE24.out.d1, HE24.out.d2⟩
        clear hK KK
        refine wpAnyH_ready (rs := [9]) (by kernel_rfl) (by simp) ?_
        refine AllReadyH.cons rfl (fun KK hK => ?_) AllReadyH.nil
        have q0 := HE24.out.op.r0
        have s0 := HE24.out.op.s0
        have q1 := HE24.out.op.r1
        have s1 := HE24.out.op.s1
        have q2 := HE24.out.op.r2
        have s2 := HE24.out.op.s2
        have qF := HE24.out.op.rF
        have sF := HE24.out.op.sF
        have hxB : w3.heap.size ≠ w.heap.size := by have := HE24.out.he; omega
        have hxA : w3.heap.size ≠ w.heap.size + 1 := by have := HE24.out.he; omega
        go_simp
        refine hK.out _ _ ?_ (fun hHeld => ?_)
        · try dsimp only
          exact ⟨(cell_set1 (cell_set1 (cell_set1 HE24.out.d0 hxB) hxB) hxB), (cell_set1 (cell_set1 (cell_set1 HE24.out.d1 hxB) hxB) hxB), (cell_set1 (cell_set1 (cell_set1 HE24.out.d2 hxB) hxB) hxB)⟩
        clear hK KK
        refine wpAnyH_ready (rs := [10]) (by kernel_rfl) (by simp) ?_
        refine AllReadyH.cons rfl (fun KK hK => ?_) AllReadyH.nil
        go_simp
        refine hK.out _ _ ?_ (fun hHeld => ?_)
        · try dsimp only
          exact ⟨(cell_set1 (cell_set1 (cell_set1 (cell_set1 (cell_set1 (cell_set1 HE24.out.d0 hxB) hxB) hxB) hxA) hxA) hxA), (cell_set1 (cell_set1 (cell_set1 (cell_set1 (cell_set1 (cell_set1 HE24.out.d1 hxB) hxB) hxB) hxA) hxA) hxA), (cell_set1 (cell_set1 (cell_set1 (cell_set1 (cell_set1 (cell_set1 HE24.out.d2 hxB) hxB) hxB) hxA) hxA) hxA)⟩
        clear hK KK
        refine tkA 11 4 (v := ?_) rfl (by kernel_rfl) (fun _ _ _ h => h) (by rfl) ?_ (by assumption) ?_; rotate_left; · (intro w hSw; (try dsimp only at hSw); go_simp; try with_reducible rfl)
        simp only [Act.put, List.setIfInBounds_toArray]
        refine tkA 12 5 (v := ?_) rfl (by kernel_rfl) (fun _ _ _ h => h) (by rfl) ?_ (by assumption) ?_; rotate_left; · (intro w hSw; (try dsimp only at hSw); go_simp; try with_reducible rfl)
        simp only [Act.put, List.setIfInBounds_toArray]
        refine wpAnyH_done (by kernel_rfl) ?_ _
        clear hHeld
        go_wp2_with fail
        refine bodyPost_ret (v := .tuple #[.agg #[.slice b n d, .int .i64 K, .int .i64 N], .agg #[.bool ad.s, .int .i64 ad.H.toInt, .int .i64 ad.L.toInt], .string ow, .int .i64 z]) (by simp [results, Tryz.results6, go_sem, q0, q1, q2, s0, s1, s2]) rfl ⟨b, n, d, K, N, ls, ad, ow, z, rfl, HN.out.1, h81, HN.out.2, how, ?_, ?_⟩
        · refine OwnG.mono (own_low (own_low (own_low (own_low (own_low (own_low HE24.out.own ?_) ?_) ?_) ?_) ?_) ?_) ?_ <;> omega
        · refine bel_low (bel_low (bel_low (bel_low (bel_low (bel_low HE24.out.op.acc ?_) ?_) ?_) ?_) ?_) ?_ <;> omega
    · go_simp
      have zb := (alloc_below w5 (.cells #[.int .i64 1, .int .i64 50, .int .i64 1000, .int .i64 1001, .int .i64 0, .int .i64 20] 3)).drew
      have hcl : w.heap.size + 2 < w5.heap.size := HD5.out.op.sz
      have hkp : Kp (w.heap.size + 2) w5 ((w5.alloc (.cells #[.int .i64 1, .int .i64 50, .int .i64 1000, .int .i64 1001, .int .i64 0, .int .i64 20] 3)).drew) := Kp.of_below hcl zb
      have HE20 := hidP (HD5.out.below zb)
      have Zi20 := hidP ((InB.mk0 (c := w.heap.size + 2) w5 hcl).drew)
      clear zb hcl hkp
      generalize (w5.alloc (.cells #[.int .i64 1, .int .i64 50, .int .i64 1000, .int .i64 1001, .int .i64 0, .int .i64 20] 3)).drew = v20 at *
      refine hK.out _ _ ?_ (fun hHeld => ?_)
      · try dsimp only
        exact ⟨HE20.out.d0, HE20.out.d1, HE20.out.d2⟩
      clear hK KK
      refine wpAnyH_ready (rs := [2, 4]) (by kernel_rfl) (by simp) ?_
      refine AllReadyH.cons rfl (fun KK hK => ?_) (AllReadyH.cons rfl (fun KK hK => ?_) AllReadyH.nil)
      · go_simp
        go_wp2_with (first | (go_at_call 21; refine (l6Addr_any (w.heap.size + 2) a len cap _ HE20.out.op.cur).mono ?_; rintro e v21 ⟨⟨ad, rfl⟩, hC21, hK21⟩))
        have HE21 := hidP (HE20.out.keep hC21 hK21)
        have Zi21 := hidP (Zi20.out.keep hK21)
        clear hC21 hK21
        refine hK.out _ _ ?_ (fun hHeld => ?_)
        · try dsimp only
          exact ⟨HE21.out.d0, HE21.out.d1, HE21.out.d2⟩
        clear hK KK
        refine wpAnyH_ready (rs := [4]) (by kernel_rfl) (by simp) ?_
        refine AllReadyH.cons rfl (fun KK hK => ?_) AllReadyH.nil
        go_simp
        have zb := alloc_below v21 (.cells #[.string ⟨#[97]⟩, .string ⟨#[98, 111, 98]⟩, .string ⟨#[]⟩, .string ⟨#[110, 111, 100, 101, 45, 49]⟩] 9)
        have hcl : w.heap.size + 2 < v21.heap.size := HE21.out.op.sz
        have hkp : Kp (w.heap.size + 2) v21 (v21.alloc (.cells #[.string ⟨#[97]⟩, .string ⟨#[98, 111, 98]⟩, .string ⟨#[]⟩, .string ⟨#[110, 111, 100, 101, 45, 49]⟩] 9)) := Kp.of_below hcl zb
        have HE22 := hidP (HE21.out.below zb)
        have Zi22 := hidP (Zi21.out.keep hkp)
        have Zs22 := hidP (StB.mk0 (c := w.heap.size + 2) v21 hcl)
        clear zb hcl hkp
        generalize v21.alloc (.cells #[.string ⟨#[97]⟩, .string ⟨#[98, 111, 98]⟩, .string ⟨#[]⟩, .string ⟨#[110, 111, 100, 101, 45, 49]⟩] 9) = v22 at *
        refine hK.out _ _ ?_ (fun hHeld => ?_)
        · try dsimp only
          exact ⟨HE22.out.d0, HE22.out.d1, HE22.out.d2⟩
        clear hK KK
        refine wpAnyH_ready (rs := [5]) (by kernel_rfl) (by simp) ?_
        refine AllReadyH.cons rfl (fun KK hK => ?_) AllReadyH.nil
        go_simp
        go_wp2_with (first | (go_at_call 22; refine (l1StrP_any (fun z => z.size ≤ 100) (w.heap.size + 2) a len cap v21.heap.size 4 _ HE22.out.op.cur (by omega) (by omega) Zs22.out.lt Zs22.out.ne Zs22.out.cv).mono ?_; rintro e v23 ⟨⟨ow, how, rfl⟩, hC23, hK23⟩))
        have HE23 := hidP (HE22.out.keep hC23 hK23)
        have Zs23 := hidP (Zs22.out.keep hK23)
        have Zi23 := hidP (Zi22.out.keep hK23)
        clear hC23 hK23
        refine hK.out _ _ ?_ (fun hHeld => ?_)
        · try dsimp only
          exact ⟨HE23.out.d0, HE23.out.d1, HE23.out.d2⟩
        clear hK KK
        refine wpAnyH_ready (rs := [8]) (by kernel_rfl) (by simp) ?_
        refine AllReadyH.cons rfl (fun KK hK => ?_) AllReadyH.nil
        go_simp
        go_wp2_with (first | (go_at_call 23; refine (l1Int_any (fun _ => True) (w.heap.size + 2) a len cap w5.heap.size 6 _ HE23.out.op.cur (by omega) (by omega) Zi23.out.lt Zi23.out.ne Zi23.out.cv).mono ?_; rintro e v24 ⟨⟨z, _, rfl⟩, hC24, hK24⟩))
        have HE24 := hidP (HE23.out.keep hC24 hK24)
        have Zs24 := hidP (Zs23.out.keep hK24)
        have Zi24 := hidP (Zi23.out.keep hK24)
        clear hC24 hK24
        refine hK.out _ _ ?_ (fun hHeld => ?_)
        · try dsimp only
          exact ⟨HE24.out.d0, HE24.out.d1, HE24.out.d2⟩
        clear hK KK
        refine wpAnyH_ready (rs := [9]) (by kernel_rfl) (by simp) ?_
        refine AllReadyH.cons rfl (fun KK hK => ?_) AllReadyH.nil
        have q0 := HE24.out.op.r0
        have s0 := HE24.out.op.s0
        have q1 := HE24.out.op.r1
        have s1 := HE24.out.op.s1
        have q2 := HE24.out.op.r2
        have s2 := HE24.out.op.s2
        have qF := HE24.out.op.rF
        have sF := HE24.out.op.sF
        have hxB : w3.heap.size ≠ w.heap.size := by have := HE24.out.he; omega
        have hxA : w3.heap.size ≠ w.heap.size + 1 := by have := HE24.out.he; omega
        go_simp
        refine hK.out _ _ ?_ (fun hHeld => ?_)
        · try dsimp only
          exact ⟨(cell_set1 (cell_set1 (cell_set1 HE24.out.d0 hxB) hxB) hxB), (cell_set1 (cell_set1 (cell_set1 HE24.out.d1 hxB) hxB) hxB), (cell_set1 (cell_set1 (cell_set1 HE24.out.d2 hxB) hxB) hxB)⟩
        clear hK KK
        refine wpAnyH_ready (rs := [10]) (by kernel_rfl) (by simp) ?_
        refine AllReadyH.cons rfl (fun KK hK => ?_) AllReadyH.nil
        go_simp
        refine hK.out _ _ ?_ (fun hHeld => ?_)
        · try dsimp only
          exact ⟨(cell_set1 (cell_set1 (cell_set1 (cell_set1 (cell_set1 (cell_set1 HE24.out.d0 hxB) hxB) hxB) hxA) hxA) hxA), (cell_set1 (cell_set1 (cell_set1 (cell_set1 (cell_set1 (cell_set1 HE24.out.d1 hxB) hxB) hxB) hxA) hxA) hxA), (cell_set1 (cell_set1 (cell_set1 (cell_set1 (cell_set1 (cell_set1 HE24.out.d2 hxB) hxB) hxB) hxA) hxA) hxA)⟩
        clear hK KK
        refine tkA 11 4 (v := ?_) rfl (by kernel_rfl) (fun _ _ _ h => h) (by rfl) ?_ (by assumption) ?_; rotate_left; · (intro w hSw; (try dsimp only at hSw); go_simp; try with_reducible rfl)
        simp only [Act.put, List.setIfInBounds_toArray]
        refine tkA 12 5 (v := ?_) rfl (by kernel_rfl) (fun _ _ _ h => h) (by rfl) ?_ (by assumption) ?_; rotate_left; · (intro w hSw; (try dsimp only at hSw); go_simp; try with_reducible rfl)
        simp only [Act.put, List.setIfInBounds_toArray]
        refine wpAnyH_done (by kernel_rfl) ?_ _
        clear hHeld
        go_wp2_with fail
        refine bodyPost_ret (v := .tuple #[.agg #[.slice b n d, .int .i64 K, .int .i64 N], .agg #[.bool ad.s, .int .i64 ad.H.toInt, .int .i64 ad.L.toInt], .string ow, .int .i64 z]) (by simp [results, Tryz.results6, go_sem, q0, q1, q2, s0, s1, s2]) rfl ⟨b, n, d, K, N, ls, ad, ow, z, rfl, HN.out.1, h81, HN.out.2, how, ?_, ?_⟩
        · refine OwnG.mono (own_low (own_low (own_low (own_low (own_low (own_low HE24.out.own ?_) ?_) ?_) ?_) ?_) ?_) ?_ <;> omega
        · refine bel_low (bel_low (bel_low (bel_low (bel_low (bel_low HE24.out.op.acc ?_) ?_) ?_) ?_) ?_) ?_ <;> omega
      · go_simp
        have zb := alloc_below v20 (.cells #[.string ⟨#[97]⟩, .string ⟨#[98, 111, 98]⟩, .string ⟨#[]⟩, .string ⟨#[110, 111, 100, 101, 45, 49]⟩] 9)
        have hcl : w.heap.size + 2 < v20.heap.size := HE20.out.op.sz
        have hkp : Kp (w.heap.size + 2) v20 (v20.alloc (.cells #[.string ⟨#[97]⟩, .string ⟨#[98, 111, 98]⟩, .string ⟨#[]⟩, .string ⟨#[110, 111, 100, 101, 45, 49]⟩] 9)) := Kp.of_below hcl zb
        have HE21 := hidP (HE20.out.below zb)
        have Zi21 := hidP (Zi20.out.keep hkp)
        have Zs21 := hidP (StB.mk0 (c := w.heap.size + 2) v20 hcl)
        clear zb hcl hkp
        generalize v20.alloc (.cells #[.string ⟨#[97]⟩, .string ⟨#[98, 111, 98]⟩, .string ⟨#[]⟩, .string ⟨#[110, 111, 100, 101, 45, 49]⟩] 9) = v21 at *
        refine hK.out _ _ ?_ (fun hHeld => ?_)
        · try dsimp only
          exact ⟨HE21.out.d0, HE21.out.d1, HE21.out.d2⟩
        clear hK KK
        refine wpAnyH_ready (rs := [2]) (by kernel_rfl) (by simp) ?_
        refine AllReadyH.cons rfl (fun KK hK => ?_) AllReadyH.nil
        go_simp
        go_wp2_with (first | (go_at_call 21; refine (l6Addr_any (w.heap.size + 2) a len cap _ HE21.out.op.cur).mono ?_; rintro e v22 ⟨⟨ad, rfl⟩, hC22, hK22⟩))
        have HE22 := hidP (HE21.out.keep hC22 hK22)
        have Zs22 := hidP (Zs21.out.keep hK22)
        have Zi22 := hidP (Zi21.out.keep hK22)
        clear hC22 hK22
        refine hK.out _ _ ?_ (fun hHeld => ?_)
        · try dsimp only
          exact ⟨HE22.out.d0, HE22.out.d1, HE22.out.d2⟩
        clear hK KK
        refine wpAnyH_ready (rs := [5]) (by kernel_rfl) (by simp) ?_
        refine AllReadyH.cons rfl (fun KK hK => ?_) AllReadyH.nil
        go_simp
        go_wp2_with (first | (go_at_call 22; refine (l1StrP_any (fun z => z.size ≤ 100) (w.heap.size + 2) a len cap v20.heap.size 4 _ HE22.out.op.cur (by omega) (by omega) Zs22.out.lt Zs22.out.ne Zs22.out.cv).mono ?_; rintro e v23 ⟨⟨ow, how, rfl⟩, hC23, hK23⟩))
        have HE23 := hidP (HE22.out.keep hC23 hK23)
        have Zs23 := hidP (Zs22.out.keep hK23)
        have Zi23 := hidP (Zi22.out.keep hK23)
        clear hC23 hK23
        refine hK.out _ _ ?_ (fun hHeld => ?_)
        · try dsimp only
          exact ⟨HE23.out.d0, HE23.out.d1, HE23.out.d2⟩
        clear hK KK
        refine wpAnyH_ready (rs := [8]) (by kernel_rfl) (by simp) ?_
        refine AllReadyH.cons rfl (fun KK hK => ?_) AllReadyH.nil
        go_simp
        go_wp2_with (first | (go_at_call 23; refine (l1Int_any (fun _ => True) (w.heap.size + 2) a len cap w5.heap.size 6 _ HE23.out.op.cur (by omega) (by omega) Zi23.out.lt Zi23.out.ne Zi23.out.cv).mono ?_; rintro e v24 ⟨⟨z, _, rfl⟩, hC24, hK24⟩))
        have HE24 := hidP (HE23.out.keep hC24 hK24)
        have Zs24 := hidP (Zs23.out.keep hK24)
        have Zi24 := hidP (Zi23.out.keep hK24)
        clear hC24 hK24
        refine hK.out _ _ ?_ (fun hHeld => ?_)
        · try dsimp only
          exact ⟨HE24.out.d0, HE24.out.d1, HE24.out.d2⟩
        clear hK KK
        refine wpAnyH_ready (rs := [9]) (by kernel_rfl) (by simp) ?_
        refine AllReadyH.cons rfl (fun KK hK => ?_) AllReadyH.nil
        have q0 := HE24.out.op.r0
        have s0 := HE24.out.op.s0
        have q1 := HE24.out.op.r1
        have s1 := HE24.out.op.s1
        have q2 := HE24.out.op.r2
        have s2 := HE24.out.op.s2
        have qF := HE24.out.op.rF
        have sF := HE24.out.op.sF
        have hxB : w3.heap.size ≠ w.heap.size := by have := HE24.out.he; omega
        have hxA : w3.heap.size ≠ w.heap.size + 1 := by have := HE24.out.he; omega
        go_simp
        refine hK.out _ _ ?_ (fun hHeld => ?_)
        · try dsimp only
          exact ⟨(cell_set1 (cell_set1 (cell_set1 HE24.out.d0 hxB) hxB) hxB), (cell_set1 (cell_set1 (cell_set1 HE24.out.d1 hxB) hxB) hxB), (cell_set1 (cell_set1 (cell_set1 HE24.out.d2 hxB) hxB) hxB)⟩
        clear hK KK
        refine wpAnyH_ready (rs := [10]) (by kernel_rfl) (by simp) ?_
        refine AllReadyH.cons rfl (fun KK hK => ?_) AllReadyH.nil
        go_simp
        refine hK.out _ _ ?_ (fun hHeld => ?_)
        · try dsimp only
          exact ⟨(cell_set1 (cell_set1 (cell_set1 (cell_set1 (cell_set1 (cell_set1 HE24.out.d0 hxB) hxB) hxB) hxA) hxA) hxA), (cell_set1 (cell_set1 (cell_set1 (cell_set1 (cell_set1 (cell_set1 HE24.out.d1 hxB) hxB) hxB) hxA) hxA) hxA), (cell_set1 (cell_set1 (cell_set1 (cell_set1 (cell_set1 (cell_set1 HE24.out.d2 hxB) hxB) hxB) hxA) hxA) hxA)⟩
        clear hK KK
        refine tkA 11 4 (v := ?_) rfl (by kernel_rfl) (fun _ _ _ h => h) (by rfl) ?_ (by assumption) ?_; rotate_left; · (intro w hSw; (try dsimp only at hSw); go_simp; try with_reducible rfl)
        simp only [Act.put, List.setIfInBounds_toArray]
        refine tkA 12 5 (v := ?_) rfl (by kernel_rfl) (fun _ _ _ h => h) (by rfl) ?_ (by assumption) ?_; rotate_left; · (intro w hSw; (try dsimp only at hSw); go_simp; try with_reducible rfl)
        simp only [Act.put, List.setIfInBounds_toArray]
        refine wpAnyH_done (by kernel_rfl) ?_ _
        clear hHeld
        go_wp2_with fail
        refine bodyPost_ret (v := .tuple #[.agg #[.slice b n d, .int .i64 K, .int .i64 N], .agg #[.bool ad.s, .int .i64 ad.H.toInt, .int .i64 ad.L.toInt], .string ow, .int .i64 z]) (by simp [results, Tryz.results6, go_sem, q0, q1, q2, s0, s1, s2]) rfl ⟨b, n, d, K, N, ls, ad, ow, z, rfl, HN.out.1, h81, HN.out.2, how, ?_, ?_⟩
        · refine OwnG.mono (own_low (own_low (own_low (own_low (own_low (own_low HE24.out.own ?_) ?_) ?_) ?_) ?_) ?_) ?_ <;> omega
        · refine bel_low (bel_low (bel_low (bel_low (bel_low (bel_low HE24.out.op.acc ?_) ?_) ?_) ?_) ?_) ?_ <;> omega
  · have p0 := HD5.out.d0
    have p1 := HD5.out.d1
    have p2 := HD5.out.d2
    have pF := HD5.out.dF
    go_wp2_with fail
    have HD6 := hidP (HD5.out.put (b' := none) (n' := 0) (d' := 0) (ls' := []) 80 0 (own_noneG KLs _ _ _) (fun k hk => by cases hk))
    generalize ((w5.setCell ⟨w3.heap.size, 0, none⟩ (.slice none 0 0)).setCell ⟨w3.heap.size, 1, none⟩ (.int .i64 80)).setCell ⟨w3.heap.size, 2, none⟩ (.int .i64 0) = W6 at *
    clear p0 p1 p2 pF HD5
    go_loopw [8] (fun t8 wr => ∃ (i : Nat) (b : Option Addr) (d : Nat) (ls : List Ls), t8 = .int .i64 i ∧ i ≤ 80 ∧ i = ls.length ∧ Sml ls ∧ OgB w wr a len cap w3.heap.size b i d 80 0 ls) (fun t8 _ => 80 - (intOf t8).toNat)
    case atStart => exact ⟨0, none, 0, [], rfl, by omega, rfl, fun q hq => (by cases hq), HD6.out⟩
    case round =>
      obtain ⟨i, b, d, ls, rfl, hi, hil, hsm, hD⟩ := hrel
      have HL := hidP (And.intro hil hsm)
      have HD7 := hidP hD
      clear hil hD hsm HD6 h81 HN
      by_cases hlt : i < 80
      · have g0 : decide ((i : Int) < 80) = true := decide_eq_true (by omega)
        have wi : IntKind.i64.wrap (100 + (i : Int)) = 100 + (i : Int) := by rw [IntKind.wrap_i64]; omega
        have wj : IntKind.i64.wrap ((i : Int) + 1) = (i : Int) + 1 := by rw [IntKind.wrap_i64]; omega
        have hbi : (BitVec.ofInt 64 (100 + (i : Int))).toInt = 100 + (i : Int) := by
          rw [BitVec.toInt_ofInt]
          exact Int.bmod_eq_of_le (by omega) (by omega)
        have one := own_oneG KLs wr 0 35 (⟨⟨false, 0, BitVec.ofInt 64 (100 + (i : Int))⟩, ⟨#[97]⟩, (i : Int) + 1, 5⟩ : Ls) (Nat.zero_le _)
        have ecs : (KLs.cs (⟨⟨false, 0, BitVec.ofInt 64 (100 + (i : Int))⟩, ⟨#[97]⟩, (i : Int) + 1, 5⟩ : Ls)).toArray = #[.bool false, .int .i64 0, .int .i64 (100 + (i : Int)), .string ⟨#[97]⟩, .int .i64 ((i : Int) + 1), .int .i64 5] := by
          show (#[.bool false, .int .i64 (0 : BitVec 64).toInt, .int .i64 (BitVec.ofInt 64 (100 + (i : Int))).toInt, .string ⟨#[97]⟩, .int .i64 ((i : Int) + 1), .int .i64 5] : Array Value) = _
          rw [hbi]; rfl
        rw [ecs] at one
        have ONE := hidP one
        clear one ecs hbi
        have p0 := HD7.out.d0
        go_wp2_with (at_builtin; refine stp ?_)
        unfold Stp
        have zb := alloc_below wr (.cells #[.bool false, .int .i64 0, .int .i64 (100 + (i : Int)), .string ⟨#[97]⟩, .int .i64 ((i : Int) + 1), .int .i64 5] 35)
        have HZ := hidP zb
        have HOw := hidP (OwnG.later HD7.out.own zb)
        clear zb p0
        generalize wr.alloc (.cells #[.bool false, .int .i64 0, .int .i64 (100 + (i : Int)), .string ⟨#[97]⟩, .int .i64 ((i : Int) + 1), .int .i64 5] 35) = W8 at *
        refine wpList_appG Tryz.tyLs _ rfl (.tmp 23) (.tmp 30) 24 rfl (w.heap.size + 3) b i d 1 ls [(⟨⟨false, 0, BitVec.ofInt 64 (100 + (i : Int))⟩, ⟨#[97]⟩, (i : Int) + 1, 5⟩ : Ls)] (.slice (some ⟨wr.heap.size, 0, none⟩) 1 1) rfl HL.out.1 rfl HOw.out rfl (src_rowG Tryz.tyLs.1 1 1 (by show 0 < 6; omega) rfl ONE.out.row (fun h => by cases h)) (by omega) (Nat.le_trans HD7.out.op.sz HZ.out.size) ?_
        intro a9 c9 w9 ho9 hg9 ht9
        have HA := hidP (HD7.out.app HZ.out ho9 hg9 ht9)
        have p0 := HA.out.2.1
        have pF := HA.out.2.2
        clear ho9 hg9 ht9
        go_wp2_with fail
        go_roundw
        case rel =>
          refine ⟨i + 1, a9, c9, _, by go_num, by omega, by rw [List.length_append, ← HL.out.1]; rfl, fun x hx => ?_, HA.out.1⟩
          rcases List.mem_append.1 hx with hx | hx
          · exact HL.out.2 x hx
          · rw [List.mem_singleton] at hx
            subst hx
            show 1 ≤ 100
            omega
        case measure => simp [intOf]; omega
      · have hi80 : i = 80 := by omega
        have g0 : decide ((i : Int) < 80) = false := decide_eq_false (by omega)
        have HI := hidP hi80
        clear hi80
        go_wp2_with fail
        have HD7d := hidP (HD7.out.below (Below.refl _ _).drew)
        refine wp_region_held_drew (S := (fun X => X.cell? ⟨w3.heap.size, 0, none⟩ = some (.slice b i d) ∧ X.cell? ⟨w3.heap.size, 1, none⟩ = some (.int .i64 80) ∧ X.cell? ⟨w3.heap.size, 2, none⟩ = some (.int .i64 0))) (by kernel_rfl) ?_ (fun hHeld => ?_)
        · try dsimp only
          exact ⟨HD7d.out.d0, HD7d.out.d1, HD7d.out.d2⟩
        refine tkA 0 33 (v := ?_) rfl (by kernel_rfl) (fun _ _ _ h => h) (by rfl) ?_ (by assumption) ?_; rotate_left; · (intro w hSw; (try dsimp only at hSw); go_simp; try with_reducible rfl)
        simp only [Act.put, List.setIfInBounds_toArray, List.set_cons_zero, List.set_cons_succ]
        refine tkA 1 34 (v := ?_) rfl (by kernel_rfl) (fun _ _ _ h => h) (by rfl) ?_ (by assumption) ?_; rotate_left; · (intro w hSw; (try dsimp only at hSw); go_simp; try with_reducible rfl)
        simp only [Act.put, List.setIfInBounds_toArray, List.set_cons_zero, List.set_cons_succ]
        refine tkA 3 36 (v := ?_) rfl (by kernel_rfl) (fun _ _ _ h => h) (by rfl) ?_ (by assumption) ?_; rotate_left; · (intro w hSw; (try dsimp only at hSw); go_simp; try with_reducible rfl)
        simp only [Act.put, List.setIfInBounds_toArray, List.set_cons_zero, List.set_cons_succ]
        refine tkA 6 39 (v := ?_) rfl (by kernel_rfl) (fun _ _ _ h => h) (by rfl) ?_ (by assumption) ?_; rotate_left; · (intro w hSw; (try dsimp only at hSw); go_simp; try with_reducible rfl)
        simp only [Act.put, List.setIfInBounds_toArray, List.set_cons_zero, List.set_cons_succ]
        refine wpAnyH_ready (rs := [2, 4, 7]) (by kernel_rfl) (by simp) ?_
        refine AllReadyH.cons rfl (fun KK hK => ?_) (AllReadyH.cons rfl (fun KK hK => ?_) (AllReadyH.cons rfl (fun KK hK => ?_) AllReadyH.nil))
        · go_simp
          go_wp2_with (first | (go_at_call 21; refine (l6Addr_any (w.heap.size + 2) a len cap _ HD7d.out.op.cur).mono ?_; rintro e v20 ⟨⟨ad, rfl⟩, hC20, hK20⟩))
          have HE20 := hidP (HD7d.out.keep hC20 hK20)
          clear hC20 hK20
          refine hK.out _ _ ?_ (fun hHeld => ?_)
          · try dsimp only
            exact ⟨HE20.out.d0, HE20.out.d1, HE20.out.d2⟩
          clear hK KK
          refine wpAnyH_ready (rs := [4, 7]) (by kernel_rfl) (by simp) ?_
          refine AllReadyH.cons rfl (fun KK hK => ?_) (AllReadyH.cons rfl (fun KK hK => ?_) AllReadyH.nil)
          · go_simp
            have zb := alloc_below v20 (.cells #[.string ⟨#[97]⟩, .string ⟨#[98, 111, 98]⟩, .string ⟨#[]⟩, .string ⟨#[110, 111, 100, 101, 45, 49]⟩] 9)
            have hcl : w.heap.size + 2 < v20.heap.size := HE20.out.op.sz
            have hkp : Kp (w.heap.size + 2) v20 (v20.alloc (.cells #[.string ⟨#[97]⟩, .string ⟨#[98, 111, 98]⟩, .string ⟨#[]⟩, .string ⟨#[110, 111, 100, 101, 45, 49]⟩] 9)) := Kp.of_below hcl zb
            have HE21 := hidP (HE20.out.below zb)
            have Zs21 := hidP (StB.mk0 (c := w.heap.size + 2) v20 hcl)
            clear zb hcl hkp
            generalize v20.alloc (.cells #[.string ⟨#[97]⟩, .string ⟨#[98, 111, 98]⟩, .string ⟨#[]⟩, .string ⟨#[110, 111, 100, 101, 45, 49]⟩] 9) = v21 at *
            refine hK.out _ _ ?_ (fun hHeld => ?_)
            · try dsimp only
              exact ⟨HE21.out.d0, HE21.out.d1, HE21.out.d2⟩
            clear hK KK
            refine wpAnyH_ready (rs := [5, 7]) (by kernel_rfl) (by simp) ?_
            refine AllReadyH.cons rfl (fun KK hK => ?_) (AllReadyH.cons rfl (fun KK hK => ?_) AllReadyH.nil)
            · go_simp
              go_wp2_with (first | (go_at_call 22; refine (l1StrP_any (fun z => z.size ≤ 100) (w.heap.size + 2) a len cap v20.heap.size 4 _ HE21.out.op.cur (by omega) (by omega) Zs21.out.lt Zs21.out.ne Zs21.out.cv).mono ?_; rintro e v22 ⟨⟨ow, how, rfl⟩, hC22, hK22⟩))
              have HE22 := hidP (HE21.out.keep hC22 hK22)
              have Zs22 := hidP (Zs21.out.keep hK22)
              clear hC22 hK22
              refine hK.out _ _ ?_ (fun hHeld => ?_)
              · try dsimp only
                exact ⟨HE22.out.d0, HE22.out.d1, HE22.out.d2⟩
              clear hK KK
              refine wpAnyH_ready (rs := [7]) (by kernel_rfl) (by simp) ?_
              refine AllReadyH.cons rfl (fun KK hK => ?_) AllReadyH.nil
              go_simp
              have zb := alloc_below v22 (.cells #[.int .i64 1, .int .i64 50, .int .i64 1000, .int .i64 1001, .int .i64 0, .int .i64 20] 3)
              have hcl : w.heap.size + 2 < v22.heap.size := HE22.out.op.sz
              have hkp : Kp (w.heap.size + 2) v22 (v22.alloc (.cells #[.int .i64 1, .int .i64 50, .int .i64 1000, .int .i64 1001, .int .i64 0, .int .i64 20] 3)) := Kp.of_below hcl zb
              have HE23 := hidP (HE22.out.below zb)
              have Zs23 := hidP (Zs22.out.keep hkp)
              have Zi23 := hidP (InB.mk0 (c := w.heap.size + 2) v22 hcl)
              clear zb hcl hkp
              generalize v22.alloc (.cells #[.int .i64 1, .int .i64 50, .int .i64 1000, .int .i64 1001, .int .i64 0, .int .i64 20] 3) = v23 at *
              refine hK.out _ _ ?_ (fun hHeld => ?_)
              · try dsimp only
                exact ⟨HE23.out.d0, HE23.out.d1, HE23.out.d2⟩
              clear hK KK
              refine wpAnyH_ready (rs := [8]) (by kernel_rfl) (by simp) ?_
              refine AllReadyH.cons rfl (fun KK hK => ?_) AllReadyH.nil
              go_simp
              go_wp2_with (first | (go_at_call 23; refine (l1Int_any (fun _ => True) (w.heap.size + 2) a len cap v22.heap.size 6 _ HE23.out.op.cur (by omega) (by omega) Zi23.out.lt Zi23.out.ne Zi23.out.cv).mono ?_; rintro e v24 ⟨⟨z, _, rfl⟩, hC24, hK24⟩))
              have HE24 := hidP (HE23.out.keep hC24 hK24)
              have Zs24 := hidP (Zs23.out.keep hK24)
              have Zi24 := hidP (Zi23.out.keep hK24)
              clear hC24 hK24
              refine hK.out _ _ ?_ (fun hHeld => ?_)
              · try dsimp only
                exact ⟨HE24.out.d0, HE24.out.d1, HE24.out.d2⟩
              clear hK KK
              refine wpAnyH_ready (rs := [9]) (by kernel_rfl) (by simp) ?_
              refine AllReadyH.cons rfl (fun KK hK => ?_) AllReadyH.nil
              have q0 := HE24.out.op.r0
              have s0 := HE24.out.op.s0
              have q1 := HE24.out.op.r1
              have s1 := HE24.out.op.s1
              have q2 := HE24.out.op.r2
              have s2 := HE24.out.op.s2
              have qF := HE24.out.op.rF
              have sF := HE24.out.op.sF
              have hxB : w3.heap.size ≠ w.heap.size := by have := HE24.out.he; omega
              have hxA : w3.heap.size ≠ w.heap.size + 1 := by have := HE24.out.he; omega
              go_simp
              refine hK.out _ _ ?_ (fun hHeld => ?_)
              · try dsimp only
                exact ⟨(cell_set1 (cell_set1 (cell_set1 HE24.out.d0 hxB) hxB) hxB), (cell_set1 (cell_set1 (cell_set1 HE24.out.d1 hxB) hxB) hxB), (cell_set1 (cell_set1 (cell_set1 HE24.out.d2 hxB) hxB) hxB)⟩
              clear hK KK
              refine wpAnyH_ready (rs := [10]) (by kernel_rfl) (by simp) ?_
              refine AllReadyH.cons rfl (fun KK hK => ?_) AllReadyH.nil
              go_simp
              refine hK.out _ _ ?_ (fun hHeld => ?_)
              · try dsimp only
                exact ⟨(cell_set1 (cell_set1 (cell_set1 (cell_set1 (cell_set1 (cell_set1 HE24.out.d0 hxB) hxB) hxB) hxA) hxA) hxA), (cell_set1 (cell_set1 (cell_set1 (cell_set1 (cell_set1 (cell_set1 HE24.out.d1 hxB) hxB) hxB) hxA) hxA) hxA), (cell_set1 (cell_set1 (cell_set1 (cell_set1 (cell_set1 (cell_set1 HE24.out.d2 hxB) hxB) hxB) hxA) hxA) hxA)⟩
              clear hK KK
              refine tkA 11 4 (v := ?_) rfl (by kernel_rfl) (fun _ _ _ h => h) (by rfl) ?_ (by assumption) ?_; rotate_left; · (intro w hSw; (try dsimp only at hSw); go_simp; try with_reducible rfl)
              simp only [Act.put, List.setIfInBounds_toArray]
              refine tkA 12 5 (v := ?_) rfl (by kernel_rfl) (fun _ _ _ h => h) (by rfl) ?_ (by assumption) ?_; rotate_left; · (intro w hSw; (try dsimp only at hSw); go_simp; try with_reducible rfl)
              simp only [Act.put, List.setIfInBounds_toArray]
              refine wpAnyH_done (by kernel_rfl) ?_ _
              clear hHeld
              go_wp2_with fail
              refine bodyPost_ret (v := .tuple #[.agg #[.slice b i d, .int .i64 80, .int .i64 0], .agg #[.bool ad.s, .int .i64 ad.H.toInt, .int .i64 ad.L.toInt], .string ow, .int .i64 z]) (by simp [results, Tryz.results6, go_sem, q0, q1, q2, s0, s1, s2]) rfl ⟨b, i, d, 80, 0, ls, ad, ow, z, rfl, HL.out.1, (by have := HI.out; omega), HL.out.2, how, ?_, ?_⟩
              · refine OwnG.mono (own_low (own_low (own_low (own_low (own_low (own_low HE24.out.own ?_) ?_) ?_) ?_) ?_) ?_) ?_ <;> omega
              · refine bel_low (bel_low (bel_low (bel_low (bel_low (bel_low HE24.out.op.acc ?_) ?_) ?_) ?_) ?_) ?_ <;> omega
            · go_simp
              have zb := alloc_below v21 (.cells #[.int .i64 1, .int .i64 50, .int .i64 1000, .int .i64 1001, .int .i64 0, .int .i64 20] 3)
              have hcl : w.heap.size + 2 < v21.heap.size := HE21.out.op.sz
              have hkp : Kp (w.heap.size + 2) v21 (v21.alloc (.cells #[.int .i64 1, .int .i64 50, .int .i64 1000, .int .i64 1001, .int .i64 0, .int .i64 20] 3)) := Kp.of_below hcl zb
              have HE22 := hidP (HE21.out.below zb)
              have Zs22 := hidP (Zs21.out.keep hkp)
              have Zi22 := hidP (InB.mk0 (c := w.heap.size + 2) v21 hcl)
              clear zb hcl hkp
              generalize v21.alloc (.cells #[.int .i64 1, .int .i64 50, .int .i64 1000, .int .i64 1001, .int .i64 0, .int .i64 20] 3) = v22 at *
              refine hK.out _ _ ?_ (fun hHeld => ?_)
              · try dsimp only
                exact ⟨HE22.out.d0, HE22.out.d1, HE22.out.d2⟩
              clear hK KK
              refine wpAnyH_ready (rs := [5]) (by kernel_rfl) (by simp) ?_
              refine AllReadyH.cons rfl (fun KK hK => ?_) AllReadyH.nil
              go_simp
              go_wp2_with (first | (go_at_call 22; refine (l1StrP_any (fun z => z.size ≤ 100) (w.heap.size + 2) a len cap v20.heap.size 4 _ HE22.out.op.cur (by omega) (by omega) Zs22.out.lt Zs22.out.ne Zs22.out.cv).mono ?_; rintro e v23 ⟨⟨ow, how, rfl⟩, hC23, hK23⟩))
              have HE23 := hidP (HE22.out.keep hC23 hK23)
              have Zs23 := hidP (Zs22.out.keep hK23)
              have Zi23 := hidP (Zi22.out.keep hK23)
              clear hC23 hK23
              refine hK.out _ _ ?_ (fun hHeld => ?_)
              · try dsimp only
                exact ⟨HE23.out.d0, HE23.out.d1, HE23.out.d2⟩
              clear hK KK
              refine wpAnyH_ready (rs := [8]) (by kernel_rfl) (by simp) ?_
              refine AllReadyH.cons rfl (fun KK hK => ?_) AllReadyH.nil
              go_simp
              go_wp2_with (first | (go_at_call 23; refine (l1Int_any (fun _ => True) (w.heap.size + 2) a len cap v21.heap.size 6 _ HE23.out.op.cur (by omega) (by omega) Zi23.out.lt Zi23.out.ne Zi23.out.cv).mono ?_; rintro e v24 ⟨⟨z, _, rfl⟩, hC24, hK24⟩))
              have HE24 := hidP (HE23.out.keep hC24 hK24)
              have Zs24 := hidP (Zs23.out.keep hK24)
              have Zi24 := hidP (Zi23.out.keep hK24)
              clear hC24 hK24
              refine hK.out _ _ ?_ (fun hHeld => ?_)
              · try dsimp only
                exact ⟨HE24.out.d0, HE24.out.d1, HE24.out.d2⟩
              clear hK KK
              refine wpAnyH_ready (rs := [9]) (by kernel_rfl) (by simp) ?_
              refine AllReadyH.cons rfl (fun KK hK => ?_) AllReadyH.nil
              have q0 := HE24.out.op.r0
              have s0 := HE24.out.op.s0
              have q1 := HE24.out.op.r1
              have s1 := HE24.out.op.s1
              have q2 := HE24.out.op.r2
              have s2 := HE24.out.op.s2
              have qF := HE24.out.op.rF
              have sF := HE24.out.op.sF
              have hxB : w3.heap.size ≠ w.heap.size := by have := HE24.out.he; omega
              have hxA : w3.heap.size ≠ w.heap.size + 1 := by have := HE24.out.he; omega
              go_simp
              refine hK.out _ _ ?_ (fun hHeld => ?_)
              · try dsimp only
                exact ⟨(cell_set1 (cell_set1 (cell_set1 HE24.out.d0 hxB) hxB) hxB), (cell_set1 (cell_set1 (cell_set1 HE24.out.d1 hxB) hxB) hxB), (cell_set1 (cell_set1 (cell_set1 HE24.out.d2 hxB) hxB) hxB)⟩
              clear hK KK
              refine wpAnyH_ready (rs := [10]) (by kernel_rfl) (by simp) ?_
              refine AllReadyH.cons rfl (fun KK hK => ?_) AllReadyH.nil
              go_simp
              refine hK.out _ _ ?_ (fun hHeld => ?_)
              · try dsimp only
                exact ⟨(cell_set1 (cell_set1 (cell_set1 (cell_set1 (cell_set1 (cell_set1 HE24.out.d0 hxB) hxB) hxB) hxA) hxA) hxA), (cell_set1 (cell_set1 (cell_set1 (cell_set1 (cell_set1 (cell_set1 HE24.out.d1 hxB) hxB) hxB) hxA) hxA) hxA), (cell_set1 (cell_set1 (cell_set1 (cell_set1 (cell_set1 (cell_set1 HE24.out.d2 hxB) hxB) hxB) hxA) hxA) hxA)⟩
              clear hK KK
              refine tkA 11 4 (v := ?_) rfl (by kernel_rfl) (fun _ _ _ h => h) (by rfl) ?_ (by assumption) ?_; rotate_left; · (intro w hSw; (try dsimp only at hSw); go_simp; try with_reducible rfl)
              simp only [Act.put, List.setIfInBounds_toArray]
              refine tkA 12 5 (v := ?_) rfl (by kernel_rfl) (fun _ _ _ h => h) (by rfl) ?_ (by assumption) ?_; rotate_left; · (intro w hSw; (try dsimp only at hSw); go_simp; try with_reducible rfl)
              simp only [Act.put, List.setIfInBounds_toArray]
              refine wpAnyH_done (by kernel_rfl) ?_ _
              clear hHeld
              go_wp2_with fail
              refine bodyPost_ret (v := .tuple #[.agg #[.slice b i d, .int .i64 80, .int .i64 0], .agg #[.bool ad.s, .int .i64 ad.H.toInt, .int .i64 ad.L.toInt], .string ow, .int .i64 z]) (by simp [results, Tryz.results6, go_sem, q0, q1, q2, s0, s1, s2]) rfl ⟨b, i, d, 80, 0, ls, ad, ow, z, rfl, HL.out.1, (by have := HI.out; omega), HL.out.2, how, ?_, ?_⟩
              · refine OwnG.mono (own_low (own_low (own_low (own_low (own_low (own_low HE24.out.own ?_) ?_) ?_) ?_) ?_) ?_) ?_ <;> omega
              · refine bel_low (bel_low (bel_low (bel_low (bel_low (bel_low HE24.out.op.acc ?_) ?_) ?_) ?_) ?_) ?_ <;> omega
          · go_simp
            have zb := alloc_below v20 (.cells #[.int .i64 1, .int .i64 50, .int .i64 1000, .int .i64 1001, .int .i64 0, .int .i64 20] 3)
            have hcl : w.heap.size + 2 < v20.heap.size := HE20.out.op.sz
            have hkp : Kp (w.heap.size + 2) v20 (v20.alloc (.cells #[.int .i64 1, .int .i64 50, .int .i64 1000, .int .i64 1001, .int .i64 0, .int .i64 20] 3)) := Kp.of_below hcl zb
            have HE21 := hidP (HE20.out.below zb)
            have Zi21 := hidP (InB.mk0 (c := w.heap.size + 2) v20 hcl)
            clear zb hcl hkp
            generalize v20.alloc (.cells #[.int .i64 1, .int .i64 50, .int .i64 1000, .int .i64 1001, .int .i64 0, .int .i64 20] 3) = v21 at *
            refine hK.out _ _ ?_ (fun hHeld => ?_)
            · try dsimp only
              exact ⟨HE21.out.d0, HE21.out.d1, HE21.out.d2⟩
            clear hK KK
            refine wpAnyH_ready (rs := [4]) (by kernel_rfl) (by simp) ?_
            refine AllReadyH.cons rfl (fun KK hK => ?_) AllReadyH.nil
            go_simp
            have zb := alloc_below v21 (.cells #[.string ⟨#[97]⟩, .string ⟨#[98, 111, 98]⟩, .string ⟨#[]⟩, .string ⟨#[110, 111, 100, 101, 45, 49]⟩] 9)
            have hcl : w.heap.size + 2 < v21.heap.size := HE21.out.op.sz
            have hkp : Kp (w.heap.size + 2) v21 (v21.alloc (.cells #[.string ⟨#[97]⟩, .string ⟨#[98, 111, 98]⟩, .string ⟨#[]⟩, .string ⟨#[110, 111, 100, 101, 45, 49]⟩] 9)) := Kp.of_below hcl zb
            have HE22 := hidP (HE21.out.below zb)
            have Zi22 := hidP (Zi21.out.keep hkp)
            have Zs22 := hidP (StB.mk0 (c := w.heap.size + 2) v21 hcl)
            clear zb hcl hkp
            generalize v21.alloc (.cells #[.string ⟨#[97]⟩, .string ⟨#[98, 111, 98]⟩, .string ⟨#[]⟩, .string ⟨#[110, 111, 100, 101, 45, 49]⟩] 9) = v22 at *
            refine hK.out _ _ ?_ (fun hHeld => ?_)
            · try dsimp only
              exact ⟨HE22.out.d0, HE22.out.d1, HE22.out.d2⟩
            clear hK KK
            refine wpAnyH_ready (rs := [5]) (by kernel_rfl) (by simp) ?_
            refine AllReadyH.cons rfl (fun KK hK => ?_) AllReadyH.nil
            go_simp
            go_wp2_with (first | (go_at_call 22; refine (l1StrP_any (fun z => z.size ≤ 100) (w.heap.size + 2) a len cap v21.heap.size 4 _ HE22.out.op.cur (by omega) (by omega) Zs22.out.lt Zs22.out.ne Zs22.out.cv).mono ?_; rintro e v23 ⟨⟨ow, how, rfl⟩, hC23, hK23⟩))
            have HE23 := hidP (HE22.out.keep hC23 hK23)
            have Zs23 := hidP (Zs22.out.keep hK23)
            have Zi23 := hidP (Zi22.out.keep hK23)
            clear hC23 hK23
            refine hK.out _ _ ?_ (fun hHeld => ?_)
            · try dsimp only
              exact ⟨HE23.out.d0, HE23.out.d1, HE23.out.d2⟩
            clear hK KK
            refine wpAnyH_ready (rs := [8]) (by kernel_rfl) (by simp) ?_
            refine AllReadyH.cons rfl (fun KK hK => ?_) AllReadyH.nil
            go_simp
            go_wp2_with (first | (go_at_call 23; refine (l1Int_any (fun _ => True) (w.heap.size + 2) a len cap v20.heap.size 6 _ HE23.out.op.cur (by omega) (by omega) Zi23.out.lt Zi23.out.ne Zi23.out.cv).mono ?_; rintro e v24 ⟨⟨z, _, rfl⟩, hC24, hK24⟩))
            have HE24 := hidP (HE23.out.keep hC24 hK24)
            have Zs24 := hidP (Zs23.out.keep hK24)
            have Zi24 := hidP (Zi23.out.keep hK24)
            clear hC24 hK24
            refine hK.out _ _ ?_ (fun hHeld => ?_)
            · try dsimp only
              exact ⟨HE24.out.d0, HE24.out.d1, HE24.out.d2⟩
            clear hK KK
            refine wpAnyH_ready (rs := [9]) (by kernel_rfl) (by simp) ?_
            refine AllReadyH.cons rfl (fun KK hK => ?_) AllReadyH.nil
            have q0 := HE24.out.op.r0
            have s0 := HE24.out.op.s0
            have q1 := HE24.out.op.r1
            have s1 := HE24.out.op.s1
            have q2 := HE24.out.op.r2
            have s2 := HE24.out.op.s2
            have qF := HE24.out.op.rF
            have sF := HE24.out.op.sF
            have hxB : w3.heap.size ≠ w.heap.size := by have := HE24.out.he; omega
            have hxA : w3.heap.size ≠ w.heap.size + 1 := by have := HE24.out.he; omega
            go_simp
            refine hK.out _ _ ?_ (fun hHeld => ?_)
            · try dsimp only
              exact ⟨(cell_set1 (cell_set1 (cell_set1 HE24.out.d0 hxB) hxB) hxB), (cell_set1 (cell_set1 (cell_set1 HE24.out.d1 hxB) hxB) hxB), (cell_set1 (cell_set1 (cell_set1 HE24.out.d2 hxB) hxB) hxB)⟩
            clear hK KK
            refine wpAnyH_ready (rs := [10]) (by kernel_rfl) (by simp) ?_
            refine AllReadyH.cons rfl (fun KK hK => ?_) AllReadyH.nil
            go_simp
            refine hK.out _ _ ?_ (fun hHeld => ?_)
            · try dsimp only
              exact ⟨(cell_set1 (cell_set1 (cell_set1 (cell_set1 (cell_set1 (cell_set1 HE24.out.d0 hxB) hxB) hxB) hxA) hxA) hxA), (cell_set1 (cell_set1 (cell_set1 (cell_set1 (cell_set1 (cell_set1 HE24.out.d1 hxB) hxB) hxB) hxA) hxA) hxA), (cell_set1 (cell_set1 (cell_set1 (cell_set1 (cell_set1 (cell_set1 HE24.out.d2 hxB) hxB) hxB) hxA) hxA) hxA)⟩
            clear hK KK
            refine tkA 11 4 (v := ?_) rfl (by kernel_rfl) (fun _ _ _ h => h) (by rfl) ?_ (by assumption) ?_; rotate_left; · (intro w hSw; (try dsimp only at hSw); go_simp; try with_reducible rfl)
            simp only [Act.put, List.setIfInBounds_toArray]
            refine tkA 12 5 (v := ?_) rfl (by kernel_rfl) (fun _ _ _ h => h) (by rfl) ?_ (by assumption) ?_; rotate_left; · (intro w hSw; (try dsimp only at hSw); go_simp; try with_reducible rfl)
            simp only [Act.put, List.setIfInBounds_toArray]
            refine wpAnyH_done (by kernel_rfl) ?_ _
            clear hHeld
            go_wp2_with fail
            refine bodyPost_ret (v := .tuple #[.agg #[.slice b i d, .int .i64 80, .int .i64 0], .agg #[.bool ad.s, .int .i64 ad.H.toInt, .int .i64 ad.L.toInt], .string ow, .int .i64 z]) (by simp [results, Tryz.results6, go_sem, q0, q1, q2, s0, s1, s2]) rfl ⟨b, i, d, 80, 0, ls, ad, ow, z, rfl, HL.out.1, (by have := HI.out; omega), HL.out.2, how, ?_, ?_⟩
            · refine OwnG.mono (own_low (own_low (own_low (own_low (own_low (own_low HE24.out.own ?_) ?_) ?_) ?_) ?_) ?_) ?_ <;> omega
            · refine bel_low (bel_low (bel_low (bel_low (bel_low (bel_low HE24.out.op.acc ?_) ?_) ?_) ?_) ?_) ?_ <;> omega
        · go_simp
          have zb := (alloc_below wr (.cells #[.string ⟨#[97]⟩, .string ⟨#[98, 111, 98]⟩, .string ⟨#[]⟩, .string ⟨#[110, 111, 100, 101, 45, 49]⟩] 9)).drew
          have hcl : w.heap.size + 2 < wr.heap.size := HD7.out.op.sz
          have hkp : Kp (w.heap.size + 2) wr ((wr.alloc (.cells #[.string ⟨#[97]⟩, .string ⟨#[98, 111, 98]⟩, .string ⟨#[]⟩, .string ⟨#[110, 111, 100, 101, 45, 49]⟩] 9)).drew) := Kp.of_below hcl zb
          have HE20 := hidP (HD7.out.below zb)
          have Zs20 := hidP ((StB.mk0 (c := w.heap.size + 2) wr hcl).drew)
          clear zb hcl hkp
          generalize (wr.alloc (.cells #[.string ⟨#[97]⟩, .string ⟨#[98, 111, 98]⟩, .string ⟨#[]⟩, .string ⟨#[110, 111, 100, 101, 45, 49]⟩] 9)).drew = v20 at *
          refine hK.out _ _ ?_ (fun hHeld => ?_)
          · try dsimp only
            exact ⟨HE20.out.d0, HE20.out.d1, HE20.out.d2⟩
          clear hK KK
          refine wpAnyH_ready (rs := [2, 7]) (by kernel_rfl) (by simp) ?_
          refine AllReadyH.cons rfl (fun KK hK => ?_) (AllReadyH.cons rfl (fun KK hK => ?_) AllReadyH.nil)
          · go_simp
            go_wp2_with (first | (go_at_call 21; refine (l6Addr_any (w.heap.size + 2) a len cap _ HE20.out.op.cur).mono ?_; rintro e v21 ⟨⟨ad, rfl⟩, hC21, hK21⟩))
            have HE21 := hidP (HE20.out.keep hC21 hK21)
            have Zs21 := hidP (Zs20.out.keep hK21)
            clear hC21 hK21
            refine hK.out _ _ ?_ (fun hHeld => ?_)
            · try dsimp only
              exact ⟨HE21.out.d0, HE21.out.d1, HE21.out.d2⟩
            clear hK KK
            refine wpAnyH_ready (rs := [5, 7]) (by kernel_rfl) (by simp) ?_
            refine AllReadyH.cons rfl (fun KK hK => ?_) (AllReadyH.cons rfl (fun KK hK => ?_) AllReadyH.nil)
            · go_simp
              go_wp2_with (first | (go_at_call 22; refine (l1StrP_any (fun z => z.size ≤ 100) (w.heap.size + 2) a len cap wr.heap.size 4 _ HE21.out.op.cur (by omega) (by omega) Zs21.out.lt Zs21.out.ne Zs21.out.cv).mono ?_; rintro e v22 ⟨⟨ow, how, rfl⟩, hC22, hK22⟩))
              have HE22 := hidP (HE21.out.keep hC22 hK22)
              have Zs22 := hidP (Zs21.out.keep hK22)
              clear hC22 hK22
              refine hK.out _ _ ?_ (fun hHeld => ?_)
              · try dsimp only
                exact ⟨HE22.out.d0, HE22.out.d1, HE22.out.d2⟩
              clear hK KK
              refine wpAnyH_ready (rs := [7]) (by kernel_rfl) (by simp) ?_
              refine AllReadyH.cons rfl (fun KK hK => ?_) AllReadyH.nil
              go_simp
              have zb := alloc_below v22 (.cells #[.int .i64 1, .int .i64 50, .int .i64 1000, .int .i64 1001, .int .i64 0, .int .i64 20] 3)
              have hcl : w.heap.size + 2 < v22.heap.size := HE22.out.op.sz
              have hkp : Kp (w.heap.size + 2) v22 (v22.alloc (.cells #[.int .i64 1, .int .i64 50, .int .i64 1000, .int .i64 1001, .int .i64 0, .int .i64 20] 3)) := Kp.of_below hcl zb
              have HE23 := hidP (HE22.out.below zb)
              have Zs23 := hidP (Zs22.out.keep hkp)
              have Zi23 := hidP (InB.mk0 (c := w.heap.size + 2) v22 hcl)
              clear zb hcl hkp
              generalize v22.alloc (.cells #[.int .i64 1, .int .i64 50, .int .i64 1000, .int .i64 1001, .int .i64 0, .int .i64 20] 3) = v23 at *
              refine hK.out _ _ ?_ (fun hHeld => ?_)
              · try dsimp only
                exact ⟨HE23.out.d0, HE23.out.d1, HE23.out.d2⟩
              clear hK KK
              refine wpAnyH_ready (rs := [8]) (by kernel_rfl) (by simp) ?_
              refine AllReadyH.cons rfl (fun KK hK => ?_) AllReadyH.nil
              go_simp
              go_wp2_with (first | (go_at_call 23; refine (l1Int_any (fun _ => True) (w.heap.size + 2) a len cap v22.heap.size 6 _ HE23.out.op.cur (by omega) (by omega) Zi23.out.lt Zi23.out.ne Zi23.out.cv).mono ?_; rintro e v24 ⟨⟨z, _, rfl⟩, hC24, hK24⟩))
              have HE24 := hidP (HE23.out.keep hC24 hK24)
              have Zs24 := hidP (Zs23.out.keep hK24)
              have Zi24 := hidP (Zi23.out.keep hK24)
              clear hC24 hK24
              refine hK.out _ _ ?_ (fun hHeld => ?_)
              · try dsimp only
                exact ⟨HE24.out.d0, HE24.out.d1, HE24.out.d2⟩
              clear hK KK
              refine wpAnyH_ready (rs := [9]) (by kernel_rfl) (by simp) ?_
              refine AllReadyH.cons rfl (fun KK hK => ?_) AllReadyH.nil
              have q0 := HE24.out.op.r0
              have s0 := HE24.out.op.s0
              have q1 := HE24.out.op.r1
              have s1 := HE24.out.op.s1
              have q2 := HE24.out.op.r2
              have s2 := HE24.out.op.s2
              have qF := HE24.out.op.rF
              have sF := HE24.out.op.sF
              have hxB : w3.heap.size ≠ w.heap.size := by have := HE24.out.he; omega
              have hxA : w3.heap.size ≠ w.heap.size + 1 := by have := HE24.out.he; omega
              go_simp
              refine hK.out _ _ ?_ (fun hHeld => ?_)
              · try dsimp only
                exact ⟨(cell_set1 (cell_set1 (cell_set1 HE24.out.d0 hxB) hxB) hxB), (cell_set1 (cell_set1 (cell_set1 HE24.out.d1 hxB) hxB) hxB), (cell_set1 (cell_set1 (cell_set1 HE24.out.d2 hxB) hxB) hxB)⟩
              clear hK KK
              refine wpAnyH_ready (rs := [10]) (by kernel_rfl) (by simp) ?_
              refine AllReadyH.cons rfl (fun KK hK => ?_) AllReadyH.nil
              go_simp
              refine hK.out _ _ ?_ (fun hHeld => ?_)
              · try dsimp only
                exact ⟨(cell_set1 (cell_set1 (cell_set1 (cell_set1 (cell_set1 (cell_set1 HE24.out.d0 hxB) hxB) hxB) hxA) hxA) hxA), (cell_set1 (cell_set1 (cell_set1 (cell_set1 (cell_set1 (cell_set1 HE24.out.d1 hxB) hxB) hxB) hxA) hxA) hxA), (cell_set1 (cell_set1 (cell_set1 (cell_set1 (cell_set1 (cell_set1 HE24.out.d2 hxB) hxB) hxB) hxA) hxA) hxA)⟩
              clear hK KK
              refine tkA 11 4 (v := ?_) rfl (by kernel_rfl) (fun _ _ _ h => h) (by rfl) ?_ (by assumption) ?_; rotate_left; · (intro w hSw; (try dsimp only at hSw); go_simp; try with_reducible rfl)
              simp only [Act.put, List.setIfInBounds_toArray]
              refine tkA 12 5 (v := ?_) rfl (by kernel_rfl) (fun _ _ _ h => h) (by rfl) ?_ (by assumption) ?_; rotate_left; · (intro w hSw; (try dsimp only at hSw); go_simp; try with_reducible rfl)
              simp only [Act.put, List.setIfInBounds_toArray]
              refine wpAnyH_done (by kernel_rfl) ?_ _
              clear hHeld
              go_wp2_with fail
              refine bodyPost_ret (v := .tuple #[.agg #[.slice b i d, .int .i64 80, .int .i64 0], .agg #[.bool ad.s, .int .i64 ad.H.toInt, .int .i64 ad.L.toInt], .string ow, .int .i64 z]) (by simp [results, Tryz.results6, go_sem, q0, q1, q2, s0, s1, s2]) rfl ⟨b, i, d, 80, 0, ls, ad, ow, z, rfl, HL.out.1, (by have := HI.out; omega), HL.out.2, how, ?_, ?_⟩
              · refine OwnG.mono (own_low (own_low (own_low (own_low (own_low (own_low HE24.out.own ?_) ?_) ?_) ?_) ?_) ?_) ?_ <;> omega
              · refine bel_low (bel_low (bel_low (bel_low (bel_low (bel_low HE24.out.op.acc ?_) ?_) ?_) ?_) ?_) ?_ <;> omega
            · go_simp
              have zb := alloc_below v21 (.cells #[.int .i64 1, .int .i64 50, .int .i64 1000, .int .i64 1001, .int .i64 0, .int .i64 20] 3)
              have hcl : w.heap.size + 2 < v21.heap.size := HE21.out.op.sz
              have hkp : Kp (w.heap.size + 2) v21 (v21.alloc (.cells #[.int .i64 1, .int .i64 50, .int .i64 1000, .int .i64 1001, .int .i64 0, .int .i64 20] 3)) := Kp.of_below hcl zb
              have HE22 := hidP (HE21.out.below zb)
              have Zs22 := hidP (Zs21.out.keep hkp)
              have Zi22 := hidP (InB.mk0 (c := w.heap.size + 2) v21 hcl)
              clear zb hcl hkp
              generalize v21.alloc (.cells #[.int .i64 1, .int .i64 50, .int .i64 1000, .int .i64 1001, .int .i64 0, .int .i64 20] 3) = v22 at *
              refine hK.out _ _ ?_ (fun hHeld => ?_)
              · try dsimp only
                exact ⟨HE22.out.d0, HE22.out.d1, HE22.out.d2⟩
              clear hK KK
              refine wpAnyH_ready (rs := [5]) (by kernel_rfl) (by simp) ?_
              refine AllReadyH.cons rfl (fun KK hK => ?_) AllReadyH.nil
              go_simp
              go_wp2_with (first | (go_at_call 22; refine (l1StrP_any (fun z => z.size ≤ 100) (w.heap.size + 2) a len cap wr.heap.size 4 _ HE22.out.op.cur (by omega) (by omega) Zs22.out.lt Zs22.out.ne Zs22.out.cv).mono ?_; rintro e v23 ⟨⟨ow, how, rfl⟩, hC23, hK23⟩))
              have HE23 := hidP (HE22.out.keep hC23 hK23)
              have Zs23 := hidP (Zs22.out.keep hK23)
              have Zi23 := hidP (Zi22.out.keep hK23)
              clear hC23 hK23
              refine hK.out _ _ ?_ (fun hHeld => ?_)
              · try dsimp only
                exact ⟨HE23.out.d0, HE23.out.d1, HE23.out.d2⟩
              clear hK KK
              refine wpAnyH_ready (rs := [8]) (by kernel_rfl) (by simp) ?_
              refine AllReadyH.cons rfl (fun KK hK => ?_) AllReadyH.nil
              go_simp
              go_wp2_with (first | (go_at_call 23; refine (l1Int_any (fun _ => True) (w.heap.size + 2) a len cap v21.heap.size 6 _ HE23.out.op.cur (by omega) (by omega) Zi23.out.lt Zi23.out.ne Zi23.out.cv).mono ?_; rintro e v24 ⟨⟨z, _, rfl⟩, hC24, hK24⟩))
              have HE24 := hidP (HE23.out.keep hC24 hK24)
              have Zs24 := hidP (Zs23.out.keep hK24)
              have Zi24 := hidP (Zi23.out.keep hK24)
              clear hC24 hK24
              refine hK.out _ _ ?_ (fun hHeld => ?_)
              · try dsimp only
                exact ⟨HE24.out.d0, HE24.out.d1, HE24.out.d2⟩
              clear hK KK
              refine wpAnyH_ready (rs := [9]) (by kernel_rfl) (by simp) ?_
              refine AllReadyH.cons rfl (fun KK hK => ?_) AllReadyH.nil
              have q0 := HE24.out.op.r0
              have s0 := HE24.out.op.s0
              have q1 := HE24.out.op.r1
              have s1 := HE24.out.op.s1
              have q2 := HE24.out.op.r2
              have s2 := HE24.out.op.s2
              have qF := HE24.out.op.rF
              have sF := HE24.out.op.sF
              have hxB : w3.heap.size ≠ w.heap.size := by have := HE24.out.he; omega
              have hxA : w3.heap.size ≠ w.heap.size + 1 := by have := HE24.out.he; omega
              go_simp
              refine hK.out _ _ ?_ (fun hHeld => ?_)
              · try dsimp only
                exact ⟨(cell_set1 (cell_set1 (cell_set1 HE24.out.d0 hxB) hxB) hxB), (cell_set1 (cell_set1 (cell_set1 HE24.out.d1 hxB) hxB) hxB), (cell_set1 (cell_set1 (cell_set1 HE24.out.d2 hxB) hxB) hxB)⟩
              clear hK KK
              refine wpAnyH_ready (rs := [10]) (by kernel_rfl) (by simp) ?_
              refine AllReadyH.cons rfl (fun KK hK => ?_) AllReadyH.nil
              go_simp
              refine hK.out _ _ ?_ (fun hHeld => ?_)
              · try dsimp only
                exact ⟨(cell_set1 (cell_set1 (cell_set1 (cell_set1 (cell_set1 (cell_set1 HE24.out.d0 hxB) hxB) hxB) hxA) hxA) hxA), (cell_set1 (cell_set1 (cell_set1 (cell_set1 (cell_set1 (cell_set1 HE24.out.d1 hxB) hxB) hxB) hxA) hxA) hxA), (cell_set1 (cell_set1 (cell_set1 (cell_set1 (cell_set1 (cell_set1 HE24.out.d2 hxB) hxB) hxB) hxA) hxA) hxA)⟩
              clear hK KK
              refine tkA 11 4 (v := ?_) rfl (by kernel_rfl) (fun _ _ _ h => h) (by rfl) ?_ (by assumption) ?_; rotate_left; · (intro w hSw; (try dsimp only at hSw); go_simp; try with_reducible rfl)
              simp only [Act.put, List.setIfInBounds_toArray]
              refine tkA 12 5 (v := ?_) rfl (by kernel_rfl) (fun _ _ _ h => h) (by rfl) ?_ (by assumption) ?_; rotate_left; · (intro w hSw; (try dsimp only at hSw); go_simp; try with_reducible rfl)
              simp only [Act.put, List.setIfInBounds_toArray]
              refine wpAnyH_done (by kernel_rfl) ?_ _
              clear hHeld
              go_wp2_with fail
              refine bodyPost_ret (v := .tuple #[.agg #[.slice b i d, .int .i64 80, .int .i64 0], .agg #[.bool ad.s, .int .i64 ad.H.toInt, .int .i64 ad.L.toInt], .string ow, .int .i64 z]) (by simp [results, Tryz.results6, go_sem, q0, q1, q2, s0, s1, s2]) rfl ⟨b, i, d, 80, 0, ls, ad, ow, z, rfl, HL.out.1, (by have := HI.out; omega), HL.out.2, how, ?_, ?_⟩
              · refine OwnG.mono (own_low (own_low (own_low (own_low (own_low (own_low HE24.out.own ?_) ?_) ?_) ?_) ?_) ?_) ?_ <;> omega
              · refine bel_low (bel_low (bel_low (bel_low (bel_low (bel_low HE24.out.op.acc ?_) ?_) ?_) ?_) ?_) ?_ <;> omega
          · go_simp
            have zb := alloc_below v20 (.cells #[.int .i64 1, .int .i64 50, .int .i64 1000, .int .i64 1001, .int .i64 0, .int .i64 20] 3)
            have hcl : w.heap.size + 2 < v20.heap.size := HE20.out.op.sz
            have hkp : Kp (w.heap.size + 2) v20 (v20.alloc (.cells #[.int .i64 1, .int .i64 50, .int .i64 1000, .int .i64 1001, .int .i64 0, .int .i64 20] 3)) := Kp.of_below hcl zb
            have HE21 := hidP (HE20.out.below zb)
            have Zs21 := hidP (Zs20.out.keep hkp)
            have Zi21 := hidP (InB.mk0 (c := w.heap.size + 2) v20 hcl)
            clear zb hcl hkp
            generalize v20.alloc (.cells #[.int .i64 1, .int .i64 50, .int .i64 1000, .int .i64 1001, .int .i64 0, .int .i64 20] 3) = v21 at *
            refine hK.out _ _ ?_ (fun hHeld => ?_)
            · try dsimp only
              exact ⟨HE21.out.d0, HE21.out.d1, HE21.out.d2⟩
            clear hK KK
            refine wpAnyH_ready (rs := [2]) (by kernel_rfl) (by simp) ?_
            refine AllReadyH.cons rfl (fun KK hK => ?_) AllReadyH.nil
            go_simp
            go_wp2_with (first | (go_at_call 21; refine (l6Addr_any (w.heap.size + 2) a len cap _ HE21.out.op.cur).mono ?_; rintro e v22 ⟨⟨ad, rfl⟩, hC22, hK22⟩))
            have HE22 := hidP (HE21.out.keep hC22 hK22)
            have Zs22 := hidP (Zs21.out.keep hK22)
            have Zi22 := hidP (Zi21.out.keep hK22)
            clear hC22 hK22
            refine hK.out _ _ ?_ (fun hHeld => ?_)
            · try dsimp only
              exact ⟨HE22.out.d0, HE22.out.d1, HE22.out.d2⟩
            clear hK KK
            refine wpAnyH_ready (rs := [5]) (by kernel_rfl) (by simp) ?_
            refine AllReadyH.cons rfl (fun KK hK => ?_) AllReadyH.nil
            go_simp
            go_wp2_with (first | (go_at_call 22; refine (l1StrP_any (fun z => z.size ≤ 100) (w.heap.size + 2) a len cap wr.heap.size 4 _ HE22.out.op.cur (by omega) (by omega) Zs22.out.lt Zs22.out.ne Zs22.out.cv).mono ?_; rintro e v23 ⟨⟨ow, how, rfl⟩, hC23, hK23⟩))
            have HE23 := hidP (HE22.out.keep hC23 hK23)
            have Zs23 := hidP (Zs22.out.keep hK23)
            have Zi23 := hidP (Zi22.out.keep hK23)
            clear hC23 hK23
            refine hK.out _ _ ?_ (fun hHeld => ?_)
            · try dsimp only
              exact ⟨HE23.out.d0, HE23.out.d1, HE23.out.d2⟩
            clear hK KK
            refine wpAnyH_ready (rs := [8]) (by kernel_rfl) (by simp) ?_
            refine AllReadyH.cons rfl (fun KK hK => ?_) AllReadyH.nil
            go_simp
            go_wp2_with (first | (go_at_call 23; refine (l1Int_any (fun _ => True) (w.heap.size + 2) a len cap v20.heap.size 6 _ HE23.out.op.cur (by omega) (by omega) Zi23.out.lt Zi23.out.ne Zi23.out.cv).mono ?_; rintro e v24 ⟨⟨z, _, rfl⟩, hC24, hK24⟩))
            have HE24 := hidP (HE23.out.keep hC24 hK24)
            have Zs24 := hidP (Zs23.out.keep hK24)
            have Zi24 := hidP (Zi23.out.keep hK24)
            clear hC24 hK24
            refine hK.out _ _ ?_ (fun hHeld => ?_)
            · try dsimp only
              exact ⟨HE24.out.d0, HE24.out.d1, HE24.out.d2⟩
            clear hK KK
            refine wpAnyH_ready (rs := [9]) (by kernel_rfl) (by simp) ?_
            refine AllReadyH.cons rfl (fun KK hK => ?_) AllReadyH.nil
            have q0 := HE24.out.op.r0
            have s0 := HE24.out.op.s0
            have q1 := HE24.out.op.r1
            have s1 := HE24.out.op.s1
            have q2 := HE24.out.op.r2
            have s2 := HE24.out.op.s2
            have qF := HE24.out.op.rF
            have sF := HE24.out.op.sF
            have hxB : w3.heap.size ≠ w.heap.size := by have := HE24.out.he; omega
            have hxA : w3.heap.size ≠ w.heap.size + 1 := by have := HE24.out.he; omega
            go_simp
            refine hK.out _ _ ?_ (fun hHeld => ?_)
            · try dsimp only
              exact ⟨(cell_set1 (cell_set1 (cell_set1 HE24.out.d0 hxB) hxB) hxB), (cell_set1 (cell_set1 (cell_set1 HE24.out.d1 hxB) hxB) hxB), (cell_set1 (cell_set1 (cell_set1 HE24.out.d2 hxB) hxB) hxB)⟩
            clear hK KK
            refine wpAnyH_ready (rs := [10]) (by kernel_rfl) (by simp) ?_
            refine AllReadyH.cons rfl (fun KK hK => ?_) AllReadyH.nil
            go_simp
            refine hK.out _ _ ?_ (fun hHeld => ?_)
            · try dsimp only
              exact ⟨(cell_set1 (cell_set1 (cell_set1 (cell_set1 (cell_set1 (cell_set1 HE24.out.d0 hxB) hxB) hxB) hxA) hxA) hxA), (cell_set1 (cell_set1 (cell_set1 (cell_set1 (cell_set1 (cell_set1 HE24.out.d1 hxB) hxB) hxB) hxA) hxA) hxA), (cell_set1 (cell_set1 (cell_set1 (cell_set1 (cell_set1 (cell_set1 HE24.out.d2 hxB) hxB) hxB) hxA) hxA) hxA)⟩
            clear hK KK
            refine tkA 11 4 (v := ?_) rfl (by kernel_rfl) (fun _ _ _ h => h) (by rfl) ?_ (by assumption) ?_; rotate_left; · (intro w hSw; (try dsimp only at hSw); go_simp; try with_reducible rfl)
            simp only [Act.put, List.setIfInBounds_toArray]
            refine tkA 12 5 (v := ?_) rfl (by kernel_rfl) (fun _ _ _ h => h) (by rfl) ?_ (by assumption) ?_; rotate_left; · (intro w hSw; (try dsimp only at hSw); go_simp; try with_reducible rfl)
            simp only [Act.put, List.setIfInBounds_toArray]
            refine wpAnyH_done (by kernel_rfl) ?_ _
            clear hHeld
            go_wp2_with fail
            refine bodyPost_ret (v := .tuple #[.agg #[.slice b i d, .int .i64 80, .int .i64 0], .agg #[.bool ad.s, .int .i64 ad.H.toInt, .int .i64 ad.L.toInt], .string ow, .int .i64 z]) (by simp [results, Tryz.results6, go_sem, q0, q1, q2, s0, s1, s2]) rfl ⟨b, i, d, 80, 0, ls, ad, ow, z, rfl, HL.out.1, (by have := HI.out; omega), HL.out.2, how, ?_, ?_⟩
            · refine OwnG.mono (own_low (own_low (own_low (own_low (own_low (own_low HE24.out.own ?_) ?_) ?_) ?_) ?_) ?_) ?_ <;> omega
            · refine bel_low (bel_low (bel_low (bel_low (bel_low (bel_low HE24.out.op.acc ?_) ?_) ?_) ?_) ?_) ?_ <;> omega
        · go_simp
          have zb := (alloc_below wr (.cells #[.int .i64 1, .int .i64 50, .int .i64 1000, .int .i64 1001, .int .i64 0, .int .i64 20] 3)).drew
          have hcl : w.heap.size + 2 < wr.heap.size := HD7.out.op.sz
          have hkp : Kp (w.heap.size + 2) wr ((wr.alloc (.cells #[.int .i64 1, .int .i64 50, .int .i64 1000, .int .i64 1001, .int .i64 0, .int .i64 20] 3)).drew) := Kp.of_below hcl zb
          have HE20 := hidP (HD7.out.below zb)
          have Zi20 := hidP ((InB.mk0 (c := w.heap.size + 2) wr hcl).drew)
          clear zb hcl hkp
          generalize (wr.alloc (.cells #[.int .i64 1, .int .i64 50, .int .i64 1000, .int .i64 1001, .int .i64 0, .int .i64 20] 3)).drew = v20 at *
          refine hK.out _ _ ?_ (fun hHeld => ?_)
          · try dsimp only
            exact ⟨HE20.out.d0, HE20.out.d1, HE20.out.d2⟩
          clear hK KK
          refine wpAnyH_ready (rs := [2, 4]) (by kernel_rfl) (by simp) ?_
          refine AllReadyH.cons rfl (fun KK hK => ?_) (AllReadyH.cons rfl (fun KK hK => ?_) AllReadyH.nil)
          · go_simp
            go_wp2_with (first | (go_at_call 21; refine (l6Addr_any (w.heap.size + 2) a len cap _ HE20.out.op.cur).mono ?_; rintro e v21 ⟨⟨ad, rfl⟩, hC21, hK21⟩))
            have HE21 := hidP (HE20.out.keep hC21 hK21)
            have Zi21 := hidP (Zi20.out.keep hK21)
            clear hC21 hK21
            refine hK.out _ _ ?_ (fun hHeld => ?_)
            · try dsimp only
              exact ⟨HE21.out.d0, HE21.out.d1, HE21.out.d2⟩
            clear hK KK
            refine wpAnyH_ready (rs := [4]) (by kernel_rfl) (by simp) ?_
            refine AllReadyH.cons rfl (fun KK hK => ?_) AllReadyH.nil
            go_simp
            have zb := alloc_below v21 (.cells #[.string ⟨#[97]⟩, .string ⟨#[98, 111, 98]⟩, .string ⟨#[]⟩, .string ⟨#[110, 111, 100, 101, 45, 49]⟩] 9)
            have hcl : w.heap.size + 2 < v21.heap.size := HE21.out.op.sz
            have hkp : Kp (w.heap.size + 2) v21 (v21.alloc (.cells #[.string ⟨#[97]⟩, .string ⟨#[98, 111, 98]⟩, .string ⟨#[]⟩, .string ⟨#[110, 111, 100, 101, 45, 49]⟩] 9)) := Kp.of_below hcl zb
            have HE22 := hidP (HE21.out.below zb)
            have Zi22 := hidP (Zi21.out.keep hkp)
            have Zs22 := hidP (StB.mk0 (c := w.heap.size + 2) v21 hcl)
            clear zb hcl hkp
            generalize v21.alloc (.cells #[.string ⟨#[97]⟩, .string ⟨#[98, 111, 98]⟩, .string ⟨#[]⟩, .string ⟨#[110, 111, 100, 101, 45, 49]⟩] 9) = v22 at *
            refine hK.out _ _ ?_ (fun hHeld => ?_)
            · try dsimp only
              exact ⟨HE22.out.d0, HE22.out.d1, HE22.out.d2⟩
            clear hK KK
            refine wpAnyH_ready (rs := [5]) (by kernel_rfl) (by simp) ?_
            refine AllReadyH.cons rfl (fun KK hK => ?_) AllReadyH.nil
            go_simp
            go_wp2_with (first | (go_at_call 22; refine (l1StrP_any (fun z => z.size ≤ 100) (w.heap.size + 2) a len cap v21.heap.size 4 _ HE22.out.op.cur (by omega) (by omega) Zs22.out.lt Zs22.out.ne Zs22.out.cv).mono ?_; rintro e v23 ⟨⟨ow, how, rfl⟩, hC23, hK23⟩))
            have HE23 := hidP (HE22.out.keep hC23 hK23)
            have Zs23 := hidP (Zs22.out.keep hK23)
            have Zi23 := hidP (Zi22.out.keep hK23)
            clear hC23 hK23
            refine hK.out _ _ ?_ (fun hHeld => ?_)
            · try dsimp only
              exact ⟨HE23.out.d0, HE23.out.d1, HE23.out.d2⟩
            clear hK KK
            refine wpAnyH_ready (rs := [8]) (by kernel_rfl) (by simp) ?_
            refine AllReadyH.cons rfl (fun KK hK => ?_) AllReadyH.nil
            go_simp
            go_wp2_with (first | (go_at_call 23; refine (l1Int_any (fun _ => True) (w.heap.size + 2) a len cap wr.heap.size 6 _ HE23.out.op.cur (by omega) (by omega) Zi23.out.lt Zi23.out.ne Zi23.out.cv).mono ?_; rintro e v24 ⟨⟨z, _, rfl⟩, hC24, hK24⟩))
            have HE24 := hidP (HE23.out.keep hC24 hK24)
            have Zs24 := hidP (Zs23.out.keep hK24)
            have Zi24 := hidP (Zi23.out.keep hK24)
            clear hC24 hK24
            refine hK.out _ _ ?_ (fun hHeld => ?_)
            · try dsimp only
              exact ⟨HE24.out.d0, HE24.out.d1, HE24.out.d2⟩
            clear hK KK
            refine wpAnyH_ready (rs := [9]) (by kernel_rfl) (by simp) ?_
            refine AllReadyH.cons rfl (fun KK hK => ?_) AllReadyH.nil
            have q0 := HE24.out.op.r0
            have s0 := HE24.out.op.s0
            have q1 := HE24.out.op.r1
            have s1 := HE24.out.op.s1
            have q2 := HE24.out.op.r2
            have s2 := HE24.out.op.s2
            have qF := HE24.out.op.rF
            have sF := HE24.out.op.sF
            have hxB : w3.heap.size ≠ w.heap.size := by have := HE24.out.he; omega
            have hxA : w3.heap.size ≠ w.heap.size + 1 := by have := HE24.out.he; omega
            go_simp
            refine hK.out _ _ ?_ (fun hHeld => ?_)
            · try dsimp only
              exact ⟨(cell_set1 (cell_set1 (cell_set1 HE24.out.d0 hxB) hxB) hxB), (cell_set1 (cell_set1 (cell_set1 HE24.out.d1 hxB) hxB) hxB), (cell_set1 (cell_set1 (cell_set1 HE24.out.d2 hxB) hxB) hxB)⟩
            clear hK KK
            refine wpAnyH_ready (rs := [10]) (by kernel_rfl) (by simp) ?_
            refine AllReadyH.cons rfl (fun KK hK => ?_) AllReadyH.nil
            go_simp
            refine hK.out _ _ ?_ (fun hHeld => ?_)
            · try dsimp only
              exact ⟨(cell_set1 (cell_set1 (cell_set1 (cell_set1 (cell_set1 (cell_set1 HE24.out.d0 hxB) hxB) hxB) hxA) hxA) hxA), (cell_set1 (cell_set1 (cell_set1 (cell_set1 (cell_set1 (cell_set1 HE24.out.d1 hxB) hxB) hxB) hxA) hxA) hxA), (cell_set1 (cell_set1 (cell_set1 (cell_set1 (cell_set1 (cell_set1 HE24.out.d2 hxB) hxB) hxB) hxA) hxA) hxA)⟩
            clear hK KK
            refine tkA 11 4 (v := ?_) rfl (by kernel_rfl) (fun _ _ _ h => h) (by rfl) ?_ (by assumption) ?_; rotate_left; · (intro w hSw; (try dsimp only at hSw); go_simp; try with_reducible rfl)
            simp only [Act.put, List.setIfInBounds_toArray]
            refine tkA 12 5 (v := ?_) rfl (by kernel_rfl) (fun _ _ _ h => h) (by rfl) ?_ (by assumption) ?_; rotate_left; · (intro w hSw; (try dsimp only at hSw); go_simp; try with_reducible rfl)
            simp only [Act.put, List.setIfInBounds_toArray]
            refine wpAnyH_done (by kernel_rfl) ?_ _
            clear hHeld
            go_wp2_with fail
            refine bodyPost_ret (v := .tuple #[.agg #[.slice b i d, .int .i64 80, .int .i64 0], .agg #[.bool ad.s, .int .i64 ad.H.toInt, .int .i64 ad.L.toInt], .string ow, .int .i64 z]) (by simp [results, Tryz.results6, go_sem, q0, q1, q2, s0, s1, s2]) rfl ⟨b, i, d, 80, 0, ls, ad, ow, z, rfl, HL.out.1, (by have := HI.out; omega), HL.out.2, how, ?_, ?_⟩
            · refine OwnG.mono (own_low (own_low (own_low (own_low (own_low (own_low HE24.out.own ?_) ?_) ?_) ?_) ?_) ?_) ?_ <;> omega
            · refine bel_low (bel_low (bel_low (bel_low (bel_low (bel_low HE24.out.op.acc ?_) ?_) ?_) ?_) ?_) ?_ <;> omega
          · go_simp
            have zb := alloc_below v20 (.cells #[.string ⟨#[97]⟩, .string ⟨#[98, 111, 98]⟩, .string ⟨#[]⟩, .string ⟨#[110, 111, 100, 101, 45, 49]⟩] 9)
            have hcl : w.heap.size + 2 < v20.heap.size := HE20.out.op.sz
            have hkp : Kp (w.heap.size + 2) v20 (v20.alloc (.cells #[.string ⟨#[97]⟩, .string ⟨#[98, 111, 98]⟩, .string ⟨#[]⟩, .string ⟨#[110, 111, 100, 101, 45, 49]⟩] 9)) := Kp.of_below hcl zb
            have HE21 := hidP (HE20.out.below zb)
            have Zi21 := hidP (Zi20.out.keep hkp)
            have Zs21 := hidP (StB.mk0 (c := w.heap.size + 2) v20 hcl)
            clear zb hcl hkp
            generalize v20.alloc (.cells #[.string ⟨#[97]⟩, .string ⟨#[98, 111, 98]⟩, .string ⟨#[]⟩, .string ⟨#[110, 111, 100, 101, 45, 49]⟩] 9) = v21 at *
            refine hK.out _ _ ?_ (fun hHeld => ?_)
            · try dsimp only
              exact ⟨HE21.out.d0, HE21.out.d1, HE21.out.d2⟩
            clear hK KK
            refine wpAnyH_ready (rs := [2]) (by kernel_rfl) (by simp) ?_
            refine AllReadyH.cons rfl (fun KK hK => ?_) AllReadyH.nil
            go_simp
            go_wp2_with (first | (go_at_call 21; refine (l6Addr_any (w.heap.size + 2) a len cap _ HE21.out.op.cur).mono ?_; rintro e v22 ⟨⟨ad, rfl⟩, hC22, hK22⟩))
            have HE22 := hidP (HE21.out.keep hC22 hK22)
            have Zs22 := hidP (Zs21.out.keep hK22)
            have Zi22 := hidP (Zi21.out.keep hK22)
            clear hC22 hK22
            refine hK.out _ _ ?_ (fun hHeld => ?_)
            · try dsimp only
              exact ⟨HE22.out.d0, HE22.out.d1, HE22.out.d2⟩
            clear hK KK
            refine wpAnyH_ready (rs := [5]) (by kernel_rfl) (by simp) ?_
            refine AllReadyH.cons rfl (fun KK hK => ?_) AllReadyH.nil
            go_simp
            go_wp2_with (first | (go_at_call 22; refine (l1StrP_any (fun z => z.size ≤ 100) (w.heap.size + 2) a len cap v20.heap.size 4 _ HE22.out.op.cur (by omega) (by omega) Zs22.out.lt Zs22.out.ne Zs22.out.cv).mono ?_; rintro e v23 ⟨⟨ow, how, rfl⟩, hC23, hK23⟩))
            have HE23 := hidP (HE22.out.keep hC23 hK23)
            have Zs23 := hidP (Zs22.out.keep hK23)
            have Zi23 := hidP (Zi22.out.keep hK23)
            clear hC23 hK23
            refine hK.out _ _ ?_ (fun hHeld => ?_)
            · try dsimp only
              exact ⟨HE23.out.d0, HE23.out.d1, HE23.out.d2⟩
            clear hK KK
            refine wpAnyH_ready (rs := [8]) (by kernel_rfl) (by simp) ?_
            refine AllReadyH.cons rfl (fun KK hK => ?_) AllReadyH.nil
            go_simp
            go_wp2_with (first | (go_at_call 23; refine (l1Int_any (fun _ => True) (w.heap.size + 2) a len cap wr.heap.size 6 _ HE23.out.op.cur (by omega) (by omega) Zi23.out.lt Zi23.out.ne Zi23.out.cv).mono ?_; rintro e v24 ⟨⟨z, _, rfl⟩, hC24, hK24⟩))
            have HE24 := hidP (HE23.out.keep hC24 hK24)
            have Zs24 := hidP (Zs23.out.keep hK24)
            have Zi24 := hidP (Zi23.out.keep hK24)
            clear hC24 hK24
            refine hK.out _ _ ?_ (fun hHeld => ?_)
            · try dsimp only
              exact ⟨HE24.out.d0, HE24.out.d1, HE24.out.d2⟩
            clear hK KK
            refine wpAnyH_ready (rs := [9]) (by kernel_rfl) (by simp) ?_
            refine AllReadyH.cons rfl (fun KK hK => ?_) AllReadyH.nil
            have q0 := HE24.out.op.r0
            have s0 := HE24.out.op.s0
            have q1 := HE24.out.op.r1
            have s1 := HE24.out.op.s1
            have q2 := HE24.out.op.r2
            have s2 := HE24.out.op.s2
            have qF := HE24.out.op.rF
            have sF := HE24.out.op.sF
            have hxB : w3.heap.size ≠ w.heap.size := by have := HE24.out.he; omega
            have hxA : w3.heap.size ≠ w.heap.size + 1 := by have := HE24.out.he; omega
            go_simp
            refine hK.out _ _ ?_ (fun hHeld => ?_)
            · try dsimp only
              exact ⟨(cell_set1 (cell_set1 (cell_set1 HE24.out.d0 hxB) hxB) hxB), (cell_set1 (cell_set1 (cell_set1 HE24.out.d1 hxB) hxB) hxB), (cell_set1 (cell_set1 (cell_set1 HE24.out.d2 hxB) hxB) hxB)⟩
            clear hK KK
            refine wpAnyH_ready (rs := [10]) (by kernel_rfl) (by simp) ?_
            refine AllReadyH.cons rfl (fun KK hK => ?_) AllReadyH.nil
            go_simp
            refine hK.out _ _ ?_ (fun hHeld => ?_)
            · try dsimp only
              exact ⟨(cell_set1 (cell_set1 (cell_set1 (cell_set1 (cell_set1 (cell_set1 HE24.out.d0 hxB) hxB) hxB) hxA) hxA) hxA), (cell_set1 (cell_set1 (cell_set1 (cell_set1 (cell_set1 (cell_set1 HE24.out.d1 hxB) hxB) hxB) hxA) hxA) hxA), (cell_set1 (cell_set1 (cell_set1 (cell_set1 (cell_set1 (cell_set1 HE24.out.d2 hxB) hxB) hxB) hxA) hxA) hxA)⟩
            clear hK KK
            refine tkA 11 4 (v := ?_) rfl (by kernel_rfl) (fun _ _ _ h => h) (by rfl) ?_ (by assumption) ?_; rotate_left; · (intro w hSw; (try dsimp only at hSw); go_simp; try with_reducible rfl)
            simp only [Act.put, List.setIfInBounds_toArray]
            refine tkA 12 5 (v := ?_) rfl (by kernel_rfl) (fun _ _ _ h => h) (by rfl) ?_ (by assumption) ?_; rotate_left; · (intro w hSw; (try dsimp only at hSw); go_simp; try with_reducible rfl)
            simp only [Act.put, List.setIfInBounds_toArray]
            refine wpAnyH_done (by kernel_rfl) ?_ _
            clear hHeld
            go_wp2_with fail
            refine bodyPost_ret (v := .tuple #[.agg #[.slice b i d, .int .i64 80, .int .i64 0], .agg #[.bool ad.s, .int .i64 ad.H.toInt, .int .i64 ad.L.toInt], .string ow, .int .i64 z]) (by simp [results, Tryz.results6, go_sem, q0, q1, q2, s0, s1, s2]) rfl ⟨b, i, d, 80, 0, ls, ad, ow, z, rfl, HL.out.1, (by have := HI.out; omega), HL.out.2, how, ?_, ?_⟩
            · refine OwnG.mono (own_low (own_low (own_low (own_low (own_low (own_low HE24.out.own ?_) ?_) ?_) ?_) ?_) ?_) ?_ <;> omega
            · refine bel_low (bel_low (bel_low (bel_low (bel_low (bel_low HE24.out.op.acc ?_) ?_) ?_) ?_) ?_) ?_ <;> omega

end Go.Proofs.YtddnofonodgneaaGreatDoor
namespace Go.Proofs.YtddnofonodgneaaGreatDoor
open Go.RowKit

set_option maxRecDepth 10000 in
set_option maxHeartbeats 2000000 in
theorem iHolder_no (a : Option Addr) (n c : Nat) (T N : Int) (_ls : List Ls) (ad : Ad) (tk : Int) (w : World) (x : Int) (HP : ∀ W, Below w.heap.size w W → Calls Tryz.prog 35 #[.agg #[.slice a n c, .int .i64 T, .int .i64 N], .agg #[.bool ad.s, .int .i64 ad.H.toInt, .int .i64 ad.L.toInt], .int .i64 tk] W fun e w' => e = .returned (.tuple #[.int .i64 0, .iface 89 (.agg #[.int .i64 x])]) ∧ Below W.heap.size W w') (hg : GlobE w) :
    Calls Tryz.prog 10 #[.agg #[.slice a n c, .int .i64 T, .int .i64 N], .agg #[.bool ad.s, .int .i64 ad.H.toInt, .int .i64 ad.L.toInt], .int .i64 tk] w fun e w' => e = .returned (.tuple #[.string ⟨#[]⟩, .int .i64 x]) ∧ Below w.heap.size w w' := by
  have HPh := hidP HP
  have HG := hidP hg
  clear HP hg
  go_enter Tryz.func10, Tryz.ntmps10
  go_wp2_with fail
  refine (HPh.out _ ((alloc_below w _).alloc (by simp) _)).mono ?_
  rintro e w2 ⟨rfl, hb2⟩
  have A2 := hidP (((alloc_below w _).alloc (by simp) _).trans (hb2.mono (by simp; omega)))
  clear hb2
  go_wp2_with fail
  refine (leaseCode_any x _ (HG.out.later A2.out)).mono ?_
  rintro e w3 ⟨rfl, hb3⟩
  have A3 := hidP (A2.out.trans (hb3.mono A2.out.size))
  clear hb3
  go_wp2_with fail
  refine bodyPost_ret (v := .tuple #[.string ⟨#[]⟩, .int .i64 x]) (by simp [results, Tryz.results10, go_sem]) rfl ?_
  exact ⟨rfl, A3.out⟩

set_option maxRecDepth 10000 in
set_option maxHeartbeats 2000000 in
theorem iHolder_yes (a : Option Addr) (n c : Nat) (T N : Int) (ls : List Ls) (ad : Ad) (tk : Int) (w : World) (I : Nat) (q : Ls) (hq : ls[I]? = some q) (hn : n = ls.length) (hB : RowG KLs w a ls) (HP : ∀ W, Below w.heap.size w W → Calls Tryz.prog 35 #[.agg #[.slice a n c, .int .i64 T, .int .i64 N], .agg #[.bool ad.s, .int .i64 ad.H.toInt, .int .i64 ad.L.toInt], .int .i64 tk] W fun e w' => e = .returned (.tuple #[.int .i64 I, .nilIface]) ∧ Below W.heap.size W w') :
    Calls Tryz.prog 10 #[.agg #[.slice a n c, .int .i64 T, .int .i64 N], .agg #[.bool ad.s, .int .i64 ad.H.toInt, .int .i64 ad.L.toInt], .int .i64 tk] w fun e w' => e = .returned (.tuple #[.string q.t, .int .i64 0]) ∧ Below w.heap.size w w' := by
  have HPh := hidP HP
  have HR := hidP (fun W h => hB.later (w' := W) h)
  have HN := hidP hn
  clear HP hB hn
  go_enter Tryz.func10, Tryz.ntmps10
  go_wp2_with fail
  refine (HPh.out _ ((alloc_below w _).alloc (by simp) _)).mono ?_
  rintro e w2 ⟨rfl, hb2⟩
  have bc0 : w2.cell? ⟨w.heap.size, 0, none⟩ = some (.slice a n c) := (hb2.cell (by simp; omega)).trans (by simp [go_sem])
  have A2 := hidP (((alloc_below w _).alloc (by simp) _).trans (hb2.mono (by simp; omega)))
  clear hb2
  obtain ⟨p, o, q', rfl, hp, hq', c0, c1, c2, c3, c4, c5⟩ := rowLs (HR.out _ A2.out) I (List.getElem?_eq_some_iff.1 hq).1
  rw [hq] at hq'
  cases hq'
  have i0 : (0 : Int) ≤ (I : Int) := by omega
  have i1 : (I : Int) < (n : Int) := by have := (List.getElem?_eq_some_iff.1 hq).1; have := HN.out; omega
  go_wp2_with fail
  refine bodyPost_ret (v := .tuple #[.string q.t, .int .i64 0]) (by simp [results, Tryz.results10, go_sem]) rfl ?_
  exact ⟨rfl, A2.out⟩

end Go.Proofs.YtddnofonodgneaaGreatDoor
namespace Go.Proofs.YtddnofonodgneaaGreatDoor
open Go.RowKit

theorem lf_iff (T N : Int) : ∀ (ls : List Ls) (r : Option Ad), leasesF T N r ls = true ↔ (∀ x ∈ ls, okLs T N x = true) ∧ ls.Pairwise (fun x y => x.a.key < y.a.key) ∧ (∀ a, r = some a → ∀ q ∈ ls, a.key < q.a.key)
  | [], r => by simp [leasesF]
  | x :: t, r => by
      unfold leasesF
      rw [Bool.and_eq_true, Bool.and_eq_true, lf_iff T N t (some x.a)]
      constructor
      · rintro ⟨⟨h1, h2⟩, h3, h4, h5⟩
        have h5' := h5 x.a rfl
        refine ⟨fun y hy => ?_, List.pairwise_cons.2 ⟨h5', h4⟩, fun a ha q hq => ?_⟩
        · rcases List.mem_cons.1 hy with e | e
          · subst e; exact h1
          · exact h3 y e
        · subst ha
          have h2' : a.key < x.a.key := by simpa [ascA] using h2
          rcases List.mem_cons.1 hq with e | e
          · subst e; exact h2'
          · have := h5' q e; omega
      · rintro ⟨h1, h2, h3⟩
        obtain ⟨h4, h5⟩ := List.pairwise_cons.1 h2
        refine ⟨⟨h1 x (List.mem_cons_self ..), ?_⟩, fun y hy => h1 y (List.mem_cons_of_mem _ hy), h5, fun a ha q hq => ?_⟩
        · cases r with
          | none => rfl
          | some a => simpa [ascA] using h3 a rfl x (List.mem_cons_self ..)
        · cases ha; exact h4 q hq
theorem bk_iff {ls : List Ls} {T N : Int} : bkB ls T N = true ↔ ls.length ≤ 80 ∧ (0 ≤ T ∧ T ≤ 1000000000) ∧ (0 ≤ N ∧ N ≤ 1000000000) ∧ (∀ x ∈ ls, okLs T N x = true) ∧ ls.Pairwise (fun x y => x.a.key < y.a.key) ∧ (ls.map (·.k)).Nodup := by
  unfold bkB tokB
  simp only [Bool.and_eq_true, decide_eq_true_eq, lf_iff]
  constructor
  · rintro ⟨⟨h1, h2, h3⟩, ⟨h4, h5, _⟩, h6⟩; exact ⟨h1, h2, h3, h4, h5, h6⟩
  · rintro ⟨h1, h2, h3, h4, h5, h6⟩; exact ⟨⟨h1, h2, h3⟩, ⟨h4, h5, fun a ha => by cases ha⟩, h6⟩

end Go.Proofs.YtddnofonodgneaaGreatDoor
namespace Go.Proofs.YtddnofonodgneaaGreatDoor
open Go.RowKit

set_option maxRecDepth 10000 in
set_option maxHeartbeats 2000000 in
theorem ptg_form (a : Option Addr) (n c : Nat) (T N : Int) (ls : List Ls) (ad : Ad) (own : ByteArray) (span : Int) (w : World) (hn : n = ls.length) (hB : RowG KLs w a ls) (hl : n ≤ 1048576) (hst : ∀ q ∈ ls, q.t.size ≤ 9223372036854775807) (hos : own.size ≤ 9223372036854775807) (hr : gokB ls T N ad own span = false) :
    Calls Tryz.prog 25 #[.agg #[.slice a n c, .int .i64 T, .int .i64 N], .agg #[.bool ad.s, .int .i64 ad.H.toInt, .int .i64 ad.L.toInt], .string own, .int .i64 span] w fun e w' => e = .returned (.tuple #[.int .i64 0, .iface 89 (.agg #[.int .i64 10])]) ∧ Below w.heap.size w w' := by
  have HIm := hidP (fun W h => iBookOk_any a n c T N ls W hn (hB.later h) hl hst)
  have HAd := hidP (iAddrOk_any ad.s ad.H.toInt ad.L.toInt)
  have HOn := hidP (fun W => iOwnerOk_any own W hos)
  have HSn := hidP (spanOk_any a n c T N span)
  have hok : ad.ok = okB ad.s ad.H.toInt ad.L.toInt := rfl
  unfold gokB at hr
  rw [hok] at hr
  clear hB hn hst hok hos
  cases hb : bkB ls T N
  · rw [hb] at HIm
    clear hr
    go_enter Tryz.func25, Tryz.ntmps25
    go_wp2_with fail
    obtain ⟨bk0_W1, bk1_W1, bk2_W1⟩ := box3B w 26 (.slice a n c) (.int .i64 T) (.int .i64 N)
    have bkF_W1 : ∀ o, (w.alloc (.cells #[.slice a n c, .int .i64 T, .int .i64 N] 26)).frozen? ⟨w.heap.size, o, none⟩ = false := fun o => by simp [go_sem]
    have bkL_W1 : w.heap.size < (w.alloc (.cells #[.slice a n c, .int .i64 T, .int .i64 N] 26)).heap.size := by simp
    have ab_W1 := alloc_below w (.cells #[.slice a n c, .int .i64 T, .int .i64 N] 26)
    have as_W1 : Hid ((w.alloc (.cells #[.slice a n c, .int .i64 T, .int .i64 N] 26)).heap.size = w.heap.size + 1) := hidP (by simp)
    generalize w.alloc (.cells #[.slice a n c, .int .i64 T, .int .i64 N] 26) = W1 at *
    have acc_W1 := hidP (ab_W1)
    have sz_W1 : Hid (w.heap.size ≤ W1.heap.size) := hidP ab_W1.size
    clear ab_W1 
    obtain ⟨at0_W2, at1_W2, at2_W2⟩ := box3B W1 28 (.bool ad.s) (.int .i64 ad.H.toInt) (.int .i64 ad.L.toInt)
    have atF_W2 : ∀ o, (W1.alloc (.cells #[.bool ad.s, .int .i64 ad.H.toInt, .int .i64 ad.L.toInt] 28)).frozen? ⟨W1.heap.size, o, none⟩ = false := fun o => by simp [go_sem]
    have atL_W2 : W1.heap.size < (W1.alloc (.cells #[.bool ad.s, .int .i64 ad.H.toInt, .int .i64 ad.L.toInt] 28)).heap.size := by simp
    have ab_W2 := alloc_below W1 (.cells #[.bool ad.s, .int .i64 ad.H.toInt, .int .i64 ad.L.toInt] 28)
    have as_W2 : Hid ((W1.alloc (.cells #[.bool ad.s, .int .i64 ad.H.toInt, .int .i64 ad.L.toInt] 28)).heap.size = W1.heap.size + 1) := hidP (by simp)
    generalize W1.alloc (.cells #[.bool ad.s, .int .i64 ad.H.toInt, .int .i64 ad.L.toInt] 28) = W2 at *
    have bk0_W2 := (ab_W2.cell bkL_W1).trans bk0_W1
    have bk1_W2 := (ab_W2.cell bkL_W1).trans bk1_W1
    have bk2_W2 := (ab_W2.cell bkL_W1).trans bk2_W1
    have bkF_W2 : ∀ o, W2.frozen? ⟨w.heap.size, o, none⟩ = false := fun o => (ab_W2.frozen bkL_W1).trans (bkF_W1 o)
    have bkL_W2 : w.heap.size < W2.heap.size := Nat.lt_of_lt_of_le bkL_W1 ab_W2.size
    have acc_W2 := hidP (acc_W1.out.trans (ab_W2.mono acc_W1.out.size))
    have sz_W2 : Hid (W1.heap.size ≤ W2.heap.size) := hidP ab_W2.size
    clear ab_W2 bk0_W1 bk1_W1 bk2_W1 bkF_W1 bkL_W1 acc_W1
    rw [as_W1.out] at at0_W2 at1_W2 at2_W2 atL_W2
    have atF_W2' : ∀ o, W2.frozen? ⟨w.heap.size + 1, o, none⟩ = false := fun o => by have := atF_W2 o; rw [as_W1.out] at this; exact this
    clear atF_W2
    have atF_W2 := atF_W2'
    clear atF_W2'
    refine (HIm.out _ acc_W2.out).mono ?_
    rintro e w3 ⟨rfl, hb3⟩
    have bk0_w3 := (hb3.cell bkL_W2).trans bk0_W2
    have bk1_w3 := (hb3.cell bkL_W2).trans bk1_W2
    have bk2_w3 := (hb3.cell bkL_W2).trans bk2_W2
    have bkF_w3 : ∀ o, w3.frozen? ⟨w.heap.size, o, none⟩ = false := fun o => (hb3.frozen bkL_W2).trans (bkF_W2 o)
    have bkL_w3 : w.heap.size < w3.heap.size := Nat.lt_of_lt_of_le bkL_W2 hb3.size
    have at0_w3 := (hb3.cell atL_W2).trans at0_W2
    have at1_w3 := (hb3.cell atL_W2).trans at1_W2
    have at2_w3 := (hb3.cell atL_W2).trans at2_W2
    have atF_w3 : ∀ o, w3.frozen? ⟨w.heap.size + 1, o, none⟩ = false := fun o => (hb3.frozen atL_W2).trans (atF_W2 o)
    have atL_w3 : w.heap.size + 1 < w3.heap.size := Nat.lt_of_lt_of_le atL_W2 hb3.size
    have acc_w3 := hidP (acc_W2.out.trans (hb3.mono acc_W2.out.size))
    have sz_w3 : Hid (W2.heap.size ≤ w3.heap.size) := hidP hb3.size
    clear hb3 bk0_W2 bk1_W2 bk2_W2 bkF_W2 bkL_W2 at0_W2 at1_W2 at2_W2 atF_W2 atL_W2 acc_W2
    go_wp2_with fail
    refine bodyPost_ret (v := .tuple #[.int .i64 0, .iface 89 (.agg #[.int .i64 10])]) (by simp [results, Tryz.results25, go_sem]) rfl ?_
    exact ⟨rfl, acc_w3.out⟩
  · have hnow := bk_now hb
    rw [hb] at HIm hr
    rw [Bool.true_and] at hr
    clear hb
    cases ho : okB ad.s ad.H.toInt ad.L.toInt
    · rw [ho] at HAd
      clear hr
      go_enter Tryz.func25, Tryz.ntmps25
      go_wp2_with fail
      obtain ⟨bk0_W1, bk1_W1, bk2_W1⟩ := box3B w 26 (.slice a n c) (.int .i64 T) (.int .i64 N)
      have bkF_W1 : ∀ o, (w.alloc (.cells #[.slice a n c, .int .i64 T, .int .i64 N] 26)).frozen? ⟨w.heap.size, o, none⟩ = false := fun o => by simp [go_sem]
      have bkL_W1 : w.heap.size < (w.alloc (.cells #[.slice a n c, .int .i64 T, .int .i64 N] 26)).heap.size := by simp
      have ab_W1 := alloc_below w (.cells #[.slice a n c, .int .i64 T, .int .i64 N] 26)
      have as_W1 : Hid ((w.alloc (.cells #[.slice a n c, .int .i64 T, .int .i64 N] 26)).heap.size = w.heap.size + 1) := hidP (by simp)
      generalize w.alloc (.cells #[.slice a n c, .int .i64 T, .int .i64 N] 26) = W1 at *
      have acc_W1 := hidP (ab_W1)
      have sz_W1 : Hid (w.heap.size ≤ W1.heap.size) := hidP ab_W1.size
      clear ab_W1 
      obtain ⟨at0_W2, at1_W2, at2_W2⟩ := box3B W1 28 (.bool ad.s) (.int .i64 ad.H.toInt) (.int .i64 ad.L.toInt)
      have atF_W2 : ∀ o, (W1.alloc (.cells #[.bool ad.s, .int .i64 ad.H.toInt, .int .i64 ad.L.toInt] 28)).frozen? ⟨W1.heap.size, o, none⟩ = false := fun o => by simp [go_sem]
      have atL_W2 : W1.heap.size < (W1.alloc (.cells #[.bool ad.s, .int .i64 ad.H.toInt, .int .i64 ad.L.toInt] 28)).heap.size := by simp
      have ab_W2 := alloc_below W1 (.cells #[.bool ad.s, .int .i64 ad.H.toInt, .int .i64 ad.L.toInt] 28)
      have as_W2 : Hid ((W1.alloc (.cells #[.bool ad.s, .int .i64 ad.H.toInt, .int .i64 ad.L.toInt] 28)).heap.size = W1.heap.size + 1) := hidP (by simp)
      generalize W1.alloc (.cells #[.bool ad.s, .int .i64 ad.H.toInt, .int .i64 ad.L.toInt] 28) = W2 at *
      have bk0_W2 := (ab_W2.cell bkL_W1).trans bk0_W1
      have bk1_W2 := (ab_W2.cell bkL_W1).trans bk1_W1
      have bk2_W2 := (ab_W2.cell bkL_W1).trans bk2_W1
      have bkF_W2 : ∀ o, W2.frozen? ⟨w.heap.size, o, none⟩ = false := fun o => (ab_W2.frozen bkL_W1).trans (bkF_W1 o)
      have bkL_W2 : w.heap.size < W2.heap.size := Nat.lt_of_lt_of_le bkL_W1 ab_W2.size
      have acc_W2 := hidP (acc_W1.out.trans (ab_W2.mono acc_W1.out.size))
      have sz_W2 : Hid (W1.heap.size ≤ W2.heap.size) := hidP ab_W2.size
      clear ab_W2 bk0_W1 bk1_W1 bk2_W1 bkF_W1 bkL_W1 acc_W1
      rw [as_W1.out] at at0_W2 at1_W2 at2_W2 atL_W2
      have atF_W2' : ∀ o, W2.frozen? ⟨w.heap.size + 1, o, none⟩ = false := fun o => by have := atF_W2 o; rw [as_W1.out] at this; exact this
      clear atF_W2
      have atF_W2 := atF_W2'
      clear atF_W2'
      refine (HIm.out _ acc_W2.out).mono ?_
      rintro e w3 ⟨rfl, hb3⟩
      have bk0_w3 := (hb3.cell bkL_W2).trans bk0_W2
      have bk1_w3 := (hb3.cell bkL_W2).trans bk1_W2
      have bk2_w3 := (hb3.cell bkL_W2).trans bk2_W2
      have bkF_w3 : ∀ o, w3.frozen? ⟨w.heap.size, o, none⟩ = false := fun o => (hb3.frozen bkL_W2).trans (bkF_W2 o)
      have bkL_w3 : w.heap.size < w3.heap.size := Nat.lt_of_lt_of_le bkL_W2 hb3.size
      have at0_w3 := (hb3.cell atL_W2).trans at0_W2
      have at1_w3 := (hb3.cell atL_W2).trans at1_W2
      have at2_w3 := (hb3.cell atL_W2).trans at2_W2
      have atF_w3 : ∀ o, w3.frozen? ⟨w.heap.size + 1, o, none⟩ = false := fun o => (hb3.frozen atL_W2).trans (atF_W2 o)
      have atL_w3 : w.heap.size + 1 < w3.heap.size := Nat.lt_of_lt_of_le atL_W2 hb3.size
      have acc_w3 := hidP (acc_W2.out.trans (hb3.mono acc_W2.out.size))
      have sz_w3 : Hid (W2.heap.size ≤ w3.heap.size) := hidP hb3.size
      clear hb3 bk0_W2 bk1_W2 bk2_W2 bkF_W2 bkL_W2 at0_W2 at1_W2 at2_W2 atF_W2 atL_W2 acc_W2
      go_wp2_with fail
      refine (HAd.out _).mono ?_
      rintro e w4 ⟨rfl, hb4⟩
      have bk0_w4 := (hb4.cell bkL_w3).trans bk0_w3
      have bk1_w4 := (hb4.cell bkL_w3).trans bk1_w3
      have bk2_w4 := (hb4.cell bkL_w3).trans bk2_w3
      have bkF_w4 : ∀ o, w4.frozen? ⟨w.heap.size, o, none⟩ = false := fun o => (hb4.frozen bkL_w3).trans (bkF_w3 o)
      have bkL_w4 : w.heap.size < w4.heap.size := Nat.lt_of_lt_of_le bkL_w3 hb4.size
      have at0_w4 := (hb4.cell atL_w3).trans at0_w3
      have at1_w4 := (hb4.cell atL_w3).trans at1_w3
      have at2_w4 := (hb4.cell atL_w3).trans at2_w3
      have atF_w4 : ∀ o, w4.frozen? ⟨w.heap.size + 1, o, none⟩ = false := fun o => (hb4.frozen atL_w3).trans (atF_w3 o)
      have atL_w4 : w.heap.size + 1 < w4.heap.size := Nat.lt_of_lt_of_le atL_w3 hb4.size
      have acc_w4 := hidP (acc_w3.out.trans (hb4.mono acc_w3.out.size))
      have sz_w4 : Hid (w3.heap.size ≤ w4.heap.size) := hidP hb4.size
      clear hb4 bk0_w3 bk1_w3 bk2_w3 bkF_w3 bkL_w3 at0_w3 at1_w3 at2_w3 atF_w3 atL_w3 acc_w3
      go_wp2_with fail
      refine bodyPost_ret (v := .tuple #[.int .i64 0, .iface 89 (.agg #[.int .i64 10])]) (by simp [results, Tryz.results25, go_sem]) rfl ?_
      exact ⟨rfl, acc_w4.out⟩
    · rw [ho] at HAd hr
      rw [Bool.true_and] at hr
      clear ho
      cases hw : ownB own
      · rw [hw] at HOn
        clear hr
        go_enter Tryz.func25, Tryz.ntmps25
        go_wp2_with fail
        obtain ⟨bk0_W1, bk1_W1, bk2_W1⟩ := box3B w 26 (.slice a n c) (.int .i64 T) (.int .i64 N)
        have bkF_W1 : ∀ o, (w.alloc (.cells #[.slice a n c, .int .i64 T, .int .i64 N] 26)).frozen? ⟨w.heap.size, o, none⟩ = false := fun o => by simp [go_sem]
        have bkL_W1 : w.heap.size < (w.alloc (.cells #[.slice a n c, .int .i64 T, .int .i64 N] 26)).heap.size := by simp
        have ab_W1 := alloc_below w (.cells #[.slice a n c, .int .i64 T, .int .i64 N] 26)
        have as_W1 : Hid ((w.alloc (.cells #[.slice a n c, .int .i64 T, .int .i64 N] 26)).heap.size = w.heap.size + 1) := hidP (by simp)
        generalize w.alloc (.cells #[.slice a n c, .int .i64 T, .int .i64 N] 26) = W1 at *
        have acc_W1 := hidP (ab_W1)
        have sz_W1 : Hid (w.heap.size ≤ W1.heap.size) := hidP ab_W1.size
        clear ab_W1 
        obtain ⟨at0_W2, at1_W2, at2_W2⟩ := box3B W1 28 (.bool ad.s) (.int .i64 ad.H.toInt) (.int .i64 ad.L.toInt)
        have atF_W2 : ∀ o, (W1.alloc (.cells #[.bool ad.s, .int .i64 ad.H.toInt, .int .i64 ad.L.toInt] 28)).frozen? ⟨W1.heap.size, o, none⟩ = false := fun o => by simp [go_sem]
        have atL_W2 : W1.heap.size < (W1.alloc (.cells #[.bool ad.s, .int .i64 ad.H.toInt, .int .i64 ad.L.toInt] 28)).heap.size := by simp
        have ab_W2 := alloc_below W1 (.cells #[.bool ad.s, .int .i64 ad.H.toInt, .int .i64 ad.L.toInt] 28)
        have as_W2 : Hid ((W1.alloc (.cells #[.bool ad.s, .int .i64 ad.H.toInt, .int .i64 ad.L.toInt] 28)).heap.size = W1.heap.size + 1) := hidP (by simp)
        generalize W1.alloc (.cells #[.bool ad.s, .int .i64 ad.H.toInt, .int .i64 ad.L.toInt] 28) = W2 at *
        have bk0_W2 := (ab_W2.cell bkL_W1).trans bk0_W1
        have bk1_W2 := (ab_W2.cell bkL_W1).trans bk1_W1
        have bk2_W2 := (ab_W2.cell bkL_W1).trans bk2_W1
        have bkF_W2 : ∀ o, W2.frozen? ⟨w.heap.size, o, none⟩ = false := fun o => (ab_W2.frozen bkL_W1).trans (bkF_W1 o)
        have bkL_W2 : w.heap.size < W2.heap.size := Nat.lt_of_lt_of_le bkL_W1 ab_W2.size
        have acc_W2 := hidP (acc_W1.out.trans (ab_W2.mono acc_W1.out.size))
        have sz_W2 : Hid (W1.heap.size ≤ W2.heap.size) := hidP ab_W2.size
        clear ab_W2 bk0_W1 bk1_W1 bk2_W1 bkF_W1 bkL_W1 acc_W1
        rw [as_W1.out] at at0_W2 at1_W2 at2_W2 atL_W2
        have atF_W2' : ∀ o, W2.frozen? ⟨w.heap.size + 1, o, none⟩ = false := fun o => by have := atF_W2 o; rw [as_W1.out] at this; exact this
        clear atF_W2
        have atF_W2 := atF_W2'
        clear atF_W2'
        refine (HIm.out _ acc_W2.out).mono ?_
        rintro e w3 ⟨rfl, hb3⟩
        have bk0_w3 := (hb3.cell bkL_W2).trans bk0_W2
        have bk1_w3 := (hb3.cell bkL_W2).trans bk1_W2
        have bk2_w3 := (hb3.cell bkL_W2).trans bk2_W2
        have bkF_w3 : ∀ o, w3.frozen? ⟨w.heap.size, o, none⟩ = false := fun o => (hb3.frozen bkL_W2).trans (bkF_W2 o)
        have bkL_w3 : w.heap.size < w3.heap.size := Nat.lt_of_lt_of_le bkL_W2 hb3.size
        have at0_w3 := (hb3.cell atL_W2).trans at0_W2
        have at1_w3 := (hb3.cell atL_W2).trans at1_W2
        have at2_w3 := (hb3.cell atL_W2).trans at2_W2
        have atF_w3 : ∀ o, w3.frozen? ⟨w.heap.size + 1, o, none⟩ = false := fun o => (hb3.frozen atL_W2).trans (atF_W2 o)
        have atL_w3 : w.heap.size + 1 < w3.heap.size := Nat.lt_of_lt_of_le atL_W2 hb3.size
        have acc_w3 := hidP (acc_W2.out.trans (hb3.mono acc_W2.out.size))
        have sz_w3 : Hid (W2.heap.size ≤ w3.heap.size) := hidP hb3.size
        clear hb3 bk0_W2 bk1_W2 bk2_W2 bkF_W2 bkL_W2 at0_W2 at1_W2 at2_W2 atF_W2 atL_W2 acc_W2
        go_wp2_with fail
        refine (HAd.out _).mono ?_
        rintro e w4 ⟨rfl, hb4⟩
        have bk0_w4 := (hb4.cell bkL_w3).trans bk0_w3
        have bk1_w4 := (hb4.cell bkL_w3).trans bk1_w3
        have bk2_w4 := (hb4.cell bkL_w3).trans bk2_w3
        have bkF_w4 : ∀ o, w4.frozen? ⟨w.heap.size, o, none⟩ = false := fun o => (hb4.frozen bkL_w3).trans (bkF_w3 o)
        have bkL_w4 : w.heap.size < w4.heap.size := Nat.lt_of_lt_of_le bkL_w3 hb4.size
        have at0_w4 := (hb4.cell atL_w3).trans at0_w3
        have at1_w4 := (hb4.cell atL_w3).trans at1_w3
        have at2_w4 := (hb4.cell atL_w3).trans at2_w3
        have atF_w4 : ∀ o, w4.frozen? ⟨w.heap.size + 1, o, none⟩ = false := fun o => (hb4.frozen atL_w3).trans (atF_w3 o)
        have atL_w4 : w.heap.size + 1 < w4.heap.size := Nat.lt_of_lt_of_le atL_w3 hb4.size
        have acc_w4 := hidP (acc_w3.out.trans (hb4.mono acc_w3.out.size))
        have sz_w4 : Hid (w3.heap.size ≤ w4.heap.size) := hidP hb4.size
        clear hb4 bk0_w3 bk1_w3 bk2_w3 bkF_w3 bkL_w3 at0_w3 at1_w3 at2_w3 atF_w3 atL_w3 acc_w3
        go_wp2_with fail
        refine (HOn.out _).mono ?_
        rintro e w5 ⟨rfl, hb5⟩
        rw [hb5]
        clear hb5 w5
        go_wp2_with fail
        refine bodyPost_ret (v := .tuple #[.int .i64 0, .iface 89 (.agg #[.int .i64 10])]) (by simp [results, Tryz.results25, go_sem]) rfl ?_
        exact ⟨rfl, acc_w4.out⟩
      · rw [hw] at HOn hr
        rw [Bool.true_and] at hr
        clear hw
        cases hs : spB N span
        · rw [hs] at HSn
          clear hr
          go_enter Tryz.func25, Tryz.ntmps25
          go_wp2_with fail
          obtain ⟨bk0_W1, bk1_W1, bk2_W1⟩ := box3B w 26 (.slice a n c) (.int .i64 T) (.int .i64 N)
          have bkF_W1 : ∀ o, (w.alloc (.cells #[.slice a n c, .int .i64 T, .int .i64 N] 26)).frozen? ⟨w.heap.size, o, none⟩ = false := fun o => by simp [go_sem]
          have bkL_W1 : w.heap.size < (w.alloc (.cells #[.slice a n c, .int .i64 T, .int .i64 N] 26)).heap.size := by simp
          have ab_W1 := alloc_below w (.cells #[.slice a n c, .int .i64 T, .int .i64 N] 26)
          have as_W1 : Hid ((w.alloc (.cells #[.slice a n c, .int .i64 T, .int .i64 N] 26)).heap.size = w.heap.size + 1) := hidP (by simp)
          generalize w.alloc (.cells #[.slice a n c, .int .i64 T, .int .i64 N] 26) = W1 at *
          have acc_W1 := hidP (ab_W1)
          have sz_W1 : Hid (w.heap.size ≤ W1.heap.size) := hidP ab_W1.size
          clear ab_W1 
          obtain ⟨at0_W2, at1_W2, at2_W2⟩ := box3B W1 28 (.bool ad.s) (.int .i64 ad.H.toInt) (.int .i64 ad.L.toInt)
          have atF_W2 : ∀ o, (W1.alloc (.cells #[.bool ad.s, .int .i64 ad.H.toInt, .int .i64 ad.L.toInt] 28)).frozen? ⟨W1.heap.size, o, none⟩ = false := fun o => by simp [go_sem]
          have atL_W2 : W1.heap.size < (W1.alloc (.cells #[.bool ad.s, .int .i64 ad.H.toInt, .int .i64 ad.L.toInt] 28)).heap.size := by simp
          have ab_W2 := alloc_below W1 (.cells #[.bool ad.s, .int .i64 ad.H.toInt, .int .i64 ad.L.toInt] 28)
          have as_W2 : Hid ((W1.alloc (.cells #[.bool ad.s, .int .i64 ad.H.toInt, .int .i64 ad.L.toInt] 28)).heap.size = W1.heap.size + 1) := hidP (by simp)
          generalize W1.alloc (.cells #[.bool ad.s, .int .i64 ad.H.toInt, .int .i64 ad.L.toInt] 28) = W2 at *
          have bk0_W2 := (ab_W2.cell bkL_W1).trans bk0_W1
          have bk1_W2 := (ab_W2.cell bkL_W1).trans bk1_W1
          have bk2_W2 := (ab_W2.cell bkL_W1).trans bk2_W1
          have bkF_W2 : ∀ o, W2.frozen? ⟨w.heap.size, o, none⟩ = false := fun o => (ab_W2.frozen bkL_W1).trans (bkF_W1 o)
          have bkL_W2 : w.heap.size < W2.heap.size := Nat.lt_of_lt_of_le bkL_W1 ab_W2.size
          have acc_W2 := hidP (acc_W1.out.trans (ab_W2.mono acc_W1.out.size))
          have sz_W2 : Hid (W1.heap.size ≤ W2.heap.size) := hidP ab_W2.size
          clear ab_W2 bk0_W1 bk1_W1 bk2_W1 bkF_W1 bkL_W1 acc_W1
          rw [as_W1.out] at at0_W2 at1_W2 at2_W2 atL_W2
          have atF_W2' : ∀ o, W2.frozen? ⟨w.heap.size + 1, o, none⟩ = false := fun o => by have := atF_W2 o; rw [as_W1.out] at this; exact this
          clear atF_W2
          have atF_W2 := atF_W2'
          clear atF_W2'
          refine (HIm.out _ acc_W2.out).mono ?_
          rintro e w3 ⟨rfl, hb3⟩
          have bk0_w3 := (hb3.cell bkL_W2).trans bk0_W2
          have bk1_w3 := (hb3.cell bkL_W2).trans bk1_W2
          have bk2_w3 := (hb3.cell bkL_W2).trans bk2_W2
          have bkF_w3 : ∀ o, w3.frozen? ⟨w.heap.size, o, none⟩ = false := fun o => (hb3.frozen bkL_W2).trans (bkF_W2 o)
          have bkL_w3 : w.heap.size < w3.heap.size := Nat.lt_of_lt_of_le bkL_W2 hb3.size
          have at0_w3 := (hb3.cell atL_W2).trans at0_W2
          have at1_w3 := (hb3.cell atL_W2).trans at1_W2
          have at2_w3 := (hb3.cell atL_W2).trans at2_W2
          have atF_w3 : ∀ o, w3.frozen? ⟨w.heap.size + 1, o, none⟩ = false := fun o => (hb3.frozen atL_W2).trans (atF_W2 o)
          have atL_w3 : w.heap.size + 1 < w3.heap.size := Nat.lt_of_lt_of_le atL_W2 hb3.size
          have acc_w3 := hidP (acc_W2.out.trans (hb3.mono acc_W2.out.size))
          have sz_w3 : Hid (W2.heap.size ≤ w3.heap.size) := hidP hb3.size
          clear hb3 bk0_W2 bk1_W2 bk2_W2 bkF_W2 bkL_W2 at0_W2 at1_W2 at2_W2 atF_W2 atL_W2 acc_W2
          go_wp2_with fail
          refine (HAd.out _).mono ?_
          rintro e w4 ⟨rfl, hb4⟩
          have bk0_w4 := (hb4.cell bkL_w3).trans bk0_w3
          have bk1_w4 := (hb4.cell bkL_w3).trans bk1_w3
          have bk2_w4 := (hb4.cell bkL_w3).trans bk2_w3
          have bkF_w4 : ∀ o, w4.frozen? ⟨w.heap.size, o, none⟩ = false := fun o => (hb4.frozen bkL_w3).trans (bkF_w3 o)
          have bkL_w4 : w.heap.size < w4.heap.size := Nat.lt_of_lt_of_le bkL_w3 hb4.size
          have at0_w4 := (hb4.cell atL_w3).trans at0_w3
          have at1_w4 := (hb4.cell atL_w3).trans at1_w3
          have at2_w4 := (hb4.cell atL_w3).trans at2_w3
          have atF_w4 : ∀ o, w4.frozen? ⟨w.heap.size + 1, o, none⟩ = false := fun o => (hb4.frozen atL_w3).trans (atF_w3 o)
          have atL_w4 : w.heap.size + 1 < w4.heap.size := Nat.lt_of_lt_of_le atL_w3 hb4.size
          have acc_w4 := hidP (acc_w3.out.trans (hb4.mono acc_w3.out.size))
          have sz_w4 : Hid (w3.heap.size ≤ w4.heap.size) := hidP hb4.size
          clear hb4 bk0_w3 bk1_w3 bk2_w3 bkF_w3 bkL_w3 at0_w3 at1_w3 at2_w3 atF_w3 atL_w3 acc_w3
          go_wp2_with fail
          refine (HOn.out _).mono ?_
          rintro e w5 ⟨rfl, hb5⟩
          rw [hb5]
          clear hb5 w5
          go_wp2_with fail
          refine (HSn.out _).mono ?_
          rintro e w6 ⟨rfl, hb6⟩
          have bk0_w6 := (hb6.cell bkL_w4).trans bk0_w4
          have bk1_w6 := (hb6.cell bkL_w4).trans bk1_w4
          have bk2_w6 := (hb6.cell bkL_w4).trans bk2_w4
          have bkF_w6 : ∀ o, w6.frozen? ⟨w.heap.size, o, none⟩ = false := fun o => (hb6.frozen bkL_w4).trans (bkF_w4 o)
          have bkL_w6 : w.heap.size < w6.heap.size := Nat.lt_of_lt_of_le bkL_w4 hb6.size
          have at0_w6 := (hb6.cell atL_w4).trans at0_w4
          have at1_w6 := (hb6.cell atL_w4).trans at1_w4
          have at2_w6 := (hb6.cell atL_w4).trans at2_w4
          have atF_w6 : ∀ o, w6.frozen? ⟨w.heap.size + 1, o, none⟩ = false := fun o => (hb6.frozen atL_w4).trans (atF_w4 o)
          have atL_w6 : w.heap.size + 1 < w6.heap.size := Nat.lt_of_lt_of_le atL_w4 hb6.size
          have acc_w6 := hidP (acc_w4.out.trans (hb6.mono acc_w4.out.size))
          have sz_w6 : Hid (w4.heap.size ≤ w6.heap.size) := hidP hb6.size
          clear hb6 bk0_w4 bk1_w4 bk2_w4 bkF_w4 bkL_w4 at0_w4 at1_w4 at2_w4 atF_w4 atL_w4 acc_w4
          go_wp2_with fail
          refine bodyPost_ret (v := .tuple #[.int .i64 0, .iface 89 (.agg #[.int .i64 10])]) (by simp [results, Tryz.results25, go_sem]) rfl ?_
          exact ⟨rfl, acc_w6.out⟩
        · rw [hs] at HSn
          have hT : (T == 1000000000) = true := by
            unfold spB at hs
            rw [Bool.and_eq_true] at hs
            rw [(sp_wrap hnow hs.1).2] at hs
            rw [hs.1, hs.2] at hr
            simpa using hr
          clear hr hs
          go_enter Tryz.func25, Tryz.ntmps25
          go_wp2_with fail
          obtain ⟨bk0_W1, bk1_W1, bk2_W1⟩ := box3B w 26 (.slice a n c) (.int .i64 T) (.int .i64 N)
          have bkF_W1 : ∀ o, (w.alloc (.cells #[.slice a n c, .int .i64 T, .int .i64 N] 26)).frozen? ⟨w.heap.size, o, none⟩ = false := fun o => by simp [go_sem]
          have bkL_W1 : w.heap.size < (w.alloc (.cells #[.slice a n c, .int .i64 T, .int .i64 N] 26)).heap.size := by simp
          have ab_W1 := alloc_below w (.cells #[.slice a n c, .int .i64 T, .int .i64 N] 26)
          have as_W1 : Hid ((w.alloc (.cells #[.slice a n c, .int .i64 T, .int .i64 N] 26)).heap.size = w.heap.size + 1) := hidP (by simp)
          generalize w.alloc (.cells #[.slice a n c, .int .i64 T, .int .i64 N] 26) = W1 at *
          have acc_W1 := hidP (ab_W1)
          have sz_W1 : Hid (w.heap.size ≤ W1.heap.size) := hidP ab_W1.size
          clear ab_W1 
          obtain ⟨at0_W2, at1_W2, at2_W2⟩ := box3B W1 28 (.bool ad.s) (.int .i64 ad.H.toInt) (.int .i64 ad.L.toInt)
          have atF_W2 : ∀ o, (W1.alloc (.cells #[.bool ad.s, .int .i64 ad.H.toInt, .int .i64 ad.L.toInt] 28)).frozen? ⟨W1.heap.size, o, none⟩ = false := fun o => by simp [go_sem]
          have atL_W2 : W1.heap.size < (W1.alloc (.cells #[.bool ad.s, .int .i64 ad.H.toInt, .int .i64 ad.L.toInt] 28)).heap.size := by simp
          have ab_W2 := alloc_below W1 (.cells #[.bool ad.s, .int .i64 ad.H.toInt, .int .i64 ad.L.toInt] 28)
          have as_W2 : Hid ((W1.alloc (.cells #[.bool ad.s, .int .i64 ad.H.toInt, .int .i64 ad.L.toInt] 28)).heap.size = W1.heap.size + 1) := hidP (by simp)
          generalize W1.alloc (.cells #[.bool ad.s, .int .i64 ad.H.toInt, .int .i64 ad.L.toInt] 28) = W2 at *
          have bk0_W2 := (ab_W2.cell bkL_W1).trans bk0_W1
          have bk1_W2 := (ab_W2.cell bkL_W1).trans bk1_W1
          have bk2_W2 := (ab_W2.cell bkL_W1).trans bk2_W1
          have bkF_W2 : ∀ o, W2.frozen? ⟨w.heap.size, o, none⟩ = false := fun o => (ab_W2.frozen bkL_W1).trans (bkF_W1 o)
          have bkL_W2 : w.heap.size < W2.heap.size := Nat.lt_of_lt_of_le bkL_W1 ab_W2.size
          have acc_W2 := hidP (acc_W1.out.trans (ab_W2.mono acc_W1.out.size))
          have sz_W2 : Hid (W1.heap.size ≤ W2.heap.size) := hidP ab_W2.size
          clear ab_W2 bk0_W1 bk1_W1 bk2_W1 bkF_W1 bkL_W1 acc_W1
          rw [as_W1.out] at at0_W2 at1_W2 at2_W2 atL_W2
          have atF_W2' : ∀ o, W2.frozen? ⟨w.heap.size + 1, o, none⟩ = false := fun o => by have := atF_W2 o; rw [as_W1.out] at this; exact this
          clear atF_W2
          have atF_W2 := atF_W2'
          clear atF_W2'
          refine (HIm.out _ acc_W2.out).mono ?_
          rintro e w3 ⟨rfl, hb3⟩
          have bk0_w3 := (hb3.cell bkL_W2).trans bk0_W2
          have bk1_w3 := (hb3.cell bkL_W2).trans bk1_W2
          have bk2_w3 := (hb3.cell bkL_W2).trans bk2_W2
          have bkF_w3 : ∀ o, w3.frozen? ⟨w.heap.size, o, none⟩ = false := fun o => (hb3.frozen bkL_W2).trans (bkF_W2 o)
          have bkL_w3 : w.heap.size < w3.heap.size := Nat.lt_of_lt_of_le bkL_W2 hb3.size
          have at0_w3 := (hb3.cell atL_W2).trans at0_W2
          have at1_w3 := (hb3.cell atL_W2).trans at1_W2
          have at2_w3 := (hb3.cell atL_W2).trans at2_W2
          have atF_w3 : ∀ o, w3.frozen? ⟨w.heap.size + 1, o, none⟩ = false := fun o => (hb3.frozen atL_W2).trans (atF_W2 o)
          have atL_w3 : w.heap.size + 1 < w3.heap.size := Nat.lt_of_lt_of_le atL_W2 hb3.size
          have acc_w3 := hidP (acc_W2.out.trans (hb3.mono acc_W2.out.size))
          have sz_w3 : Hid (W2.heap.size ≤ w3.heap.size) := hidP hb3.size
          clear hb3 bk0_W2 bk1_W2 bk2_W2 bkF_W2 bkL_W2 at0_W2 at1_W2 at2_W2 atF_W2 atL_W2 acc_W2
          go_wp2_with fail
          refine (HAd.out _).mono ?_
          rintro e w4 ⟨rfl, hb4⟩
          have bk0_w4 := (hb4.cell bkL_w3).trans bk0_w3
          have bk1_w4 := (hb4.cell bkL_w3).trans bk1_w3
          have bk2_w4 := (hb4.cell bkL_w3).trans bk2_w3
          have bkF_w4 : ∀ o, w4.frozen? ⟨w.heap.size, o, none⟩ = false := fun o => (hb4.frozen bkL_w3).trans (bkF_w3 o)
          have bkL_w4 : w.heap.size < w4.heap.size := Nat.lt_of_lt_of_le bkL_w3 hb4.size
          have at0_w4 := (hb4.cell atL_w3).trans at0_w3
          have at1_w4 := (hb4.cell atL_w3).trans at1_w3
          have at2_w4 := (hb4.cell atL_w3).trans at2_w3
          have atF_w4 : ∀ o, w4.frozen? ⟨w.heap.size + 1, o, none⟩ = false := fun o => (hb4.frozen atL_w3).trans (atF_w3 o)
          have atL_w4 : w.heap.size + 1 < w4.heap.size := Nat.lt_of_lt_of_le atL_w3 hb4.size
          have acc_w4 := hidP (acc_w3.out.trans (hb4.mono acc_w3.out.size))
          have sz_w4 : Hid (w3.heap.size ≤ w4.heap.size) := hidP hb4.size
          clear hb4 bk0_w3 bk1_w3 bk2_w3 bkF_w3 bkL_w3 at0_w3 at1_w3 at2_w3 atF_w3 atL_w3 acc_w3
          go_wp2_with fail
          refine (HOn.out _).mono ?_
          rintro e w5 ⟨rfl, hb5⟩
          rw [hb5]
          clear hb5 w5
          go_wp2_with fail
          refine (HSn.out _).mono ?_
          rintro e w6 ⟨rfl, hb6⟩
          have bk0_w6 := (hb6.cell bkL_w4).trans bk0_w4
          have bk1_w6 := (hb6.cell bkL_w4).trans bk1_w4
          have bk2_w6 := (hb6.cell bkL_w4).trans bk2_w4
          have bkF_w6 : ∀ o, w6.frozen? ⟨w.heap.size, o, none⟩ = false := fun o => (hb6.frozen bkL_w4).trans (bkF_w4 o)
          have bkL_w6 : w.heap.size < w6.heap.size := Nat.lt_of_lt_of_le bkL_w4 hb6.size
          have at0_w6 := (hb6.cell atL_w4).trans at0_w4
          have at1_w6 := (hb6.cell atL_w4).trans at1_w4
          have at2_w6 := (hb6.cell atL_w4).trans at2_w4
          have atF_w6 : ∀ o, w6.frozen? ⟨w.heap.size + 1, o, none⟩ = false := fun o => (hb6.frozen atL_w4).trans (atF_w4 o)
          have atL_w6 : w.heap.size + 1 < w6.heap.size := Nat.lt_of_lt_of_le atL_w4 hb6.size
          have acc_w6 := hidP (acc_w4.out.trans (hb6.mono acc_w4.out.size))
          have sz_w6 : Hid (w4.heap.size ≤ w6.heap.size) := hidP hb6.size
          clear hb6 bk0_w4 bk1_w4 bk2_w4 bkF_w4 bkL_w4 at0_w4 at1_w4 at2_w4 atF_w4 atL_w4 acc_w4
          go_wp2_with fail
          refine bodyPost_ret (v := .tuple #[.int .i64 0, .iface 89 (.agg #[.int .i64 10])]) (by simp [results, Tryz.results25, go_sem]) rfl ?_
          exact ⟨rfl, acc_w6.out⟩

set_option maxRecDepth 10000 in
set_option maxHeartbeats 2000000 in
theorem ptg_held (a : Option Addr) (n c : Nat) (T N : Int) (ls : List Ls) (ad : Ad) (own : ByteArray) (span : Int) (w : World) (hn : n = ls.length) (hB : RowG KLs w a ls) (hl : n ≤ 1048576) (hst : ∀ q ∈ ls, q.t.size ≤ 9223372036854775807) (hos : own.size ≤ 9223372036854775807) (hr : gokB ls T N ad own span = true) (I : Nat) (hx : fxL ls ad = some I) :
    Calls Tryz.prog 25 #[.agg #[.slice a n c, .int .i64 T, .int .i64 N], .agg #[.bool ad.s, .int .i64 ad.H.toInt, .int .i64 ad.L.toInt], .string own, .int .i64 span] w fun e w' => e = .returned (.tuple #[.int .i64 0, .iface 89 (.agg #[.int .i64 11])]) ∧ Below w.heap.size w w' := by
  have HIm := hidP (fun W h => iBookOk_any a n c T N ls W hn (hB.later h) hl hst)
  have HAd := hidP (iAddrOk_any ad.s ad.H.toInt ad.L.toInt)
  have HOn := hidP (fun W => iOwnerOk_any own W hos)
  have HSn := hidP (spanOk_any a n c T N span)
  have hok : ad.ok = okB ad.s ad.H.toInt ad.L.toInt := rfl
  unfold gokB at hr
  simp only [Bool.and_eq_true] at hr
  obtain ⟨hb, ho, hw, ⟨⟨h1, h1b⟩, h2⟩, hT0⟩ := hr
  have h1c : (decide (1 ≤ span) && decide (span ≤ 1000)) = true := by rw [h1, h1b]; rfl
  have hsw := sp_wrap (bk_now hb) h1c
  have hs : spB N span = true := by unfold spB; rw [hsw.2, h1c, h2]; rfl
  have hT : (T == 1000000000) = false := by simpa using hT0
  have hT' : ¬ T = 1000000000 := by simpa using hT
  have hsr := (srt_bk hb).1
  have HPl := hidP (fun W h => placeOfLease_any a n c T N ls ad W hn (hB.later h) hl hsr ho)
  rw [hok] at ho
  rw [hb] at HIm
  rw [ho] at HAd
  rw [hw] at HOn
  rw [hs] at HSn
  have HS := hidP hsr
  have HN := hidP hn
  clear hB hn hst hok hos hb ho hw h1 h1b h1c h2 hT0 hsw hs hsr
  go_enter Tryz.func25, Tryz.ntmps25
  go_wp2_with fail
  obtain ⟨bk0_W1, bk1_W1, bk2_W1⟩ := box3B w 26 (.slice a n c) (.int .i64 T) (.int .i64 N)
  have bkF_W1 : ∀ o, (w.alloc (.cells #[.slice a n c, .int .i64 T, .int .i64 N] 26)).frozen? ⟨w.heap.size, o, none⟩ = false := fun o => by simp [go_sem]
  have bkL_W1 : w.heap.size < (w.alloc (.cells #[.slice a n c, .int .i64 T, .int .i64 N] 26)).heap.size := by simp
  have ab_W1 := alloc_below w (.cells #[.slice a n c, .int .i64 T, .int .i64 N] 26)
  have as_W1 : Hid ((w.alloc (.cells #[.slice a n c, .int .i64 T, .int .i64 N] 26)).heap.size = w.heap.size + 1) := hidP (by simp)
  generalize w.alloc (.cells #[.slice a n c, .int .i64 T, .int .i64 N] 26) = W1 at *
  have acc_W1 := hidP (ab_W1)
  have sz_W1 : Hid (w.heap.size ≤ W1.heap.size) := hidP ab_W1.size
  clear ab_W1 
  obtain ⟨at0_W2, at1_W2, at2_W2⟩ := box3B W1 28 (.bool ad.s) (.int .i64 ad.H.toInt) (.int .i64 ad.L.toInt)
  have atF_W2 : ∀ o, (W1.alloc (.cells #[.bool ad.s, .int .i64 ad.H.toInt, .int .i64 ad.L.toInt] 28)).frozen? ⟨W1.heap.size, o, none⟩ = false := fun o => by simp [go_sem]
  have atL_W2 : W1.heap.size < (W1.alloc (.cells #[.bool ad.s, .int .i64 ad.H.toInt, .int .i64 ad.L.toInt] 28)).heap.size := by simp
  have ab_W2 := alloc_below W1 (.cells #[.bool ad.s, .int .i64 ad.H.toInt, .int .i64 ad.L.toInt] 28)
  have as_W2 : Hid ((W1.alloc (.cells #[.bool ad.s, .int .i64 ad.H.toInt, .int .i64 ad.L.toInt] 28)).heap.size = W1.heap.size + 1) := hidP (by simp)
  generalize W1.alloc (.cells #[.bool ad.s, .int .i64 ad.H.toInt, .int .i64 ad.L.toInt] 28) = W2 at *
  have bk0_W2 := (ab_W2.cell bkL_W1).trans bk0_W1
  have bk1_W2 := (ab_W2.cell bkL_W1).trans bk1_W1
  have bk2_W2 := (ab_W2.cell bkL_W1).trans bk2_W1
  have bkF_W2 : ∀ o, W2.frozen? ⟨w.heap.size, o, none⟩ = false := fun o => (ab_W2.frozen bkL_W1).trans (bkF_W1 o)
  have bkL_W2 : w.heap.size < W2.heap.size := Nat.lt_of_lt_of_le bkL_W1 ab_W2.size
  have acc_W2 := hidP (acc_W1.out.trans (ab_W2.mono acc_W1.out.size))
  have sz_W2 : Hid (W1.heap.size ≤ W2.heap.size) := hidP ab_W2.size
  clear ab_W2 bk0_W1 bk1_W1 bk2_W1 bkF_W1 bkL_W1 acc_W1
  rw [as_W1.out] at at0_W2 at1_W2 at2_W2 atL_W2
  have atF_W2' : ∀ o, W2.frozen? ⟨w.heap.size + 1, o, none⟩ = false := fun o => by have := atF_W2 o; rw [as_W1.out] at this; exact this
  clear atF_W2
  have atF_W2 := atF_W2'
  clear atF_W2'
  refine (HIm.out _ acc_W2.out).mono ?_
  rintro e w3 ⟨rfl, hb3⟩
  have bk0_w3 := (hb3.cell bkL_W2).trans bk0_W2
  have bk1_w3 := (hb3.cell bkL_W2).trans bk1_W2
  have bk2_w3 := (hb3.cell bkL_W2).trans bk2_W2
  have bkF_w3 : ∀ o, w3.frozen? ⟨w.heap.size, o, none⟩ = false := fun o => (hb3.frozen bkL_W2).trans (bkF_W2 o)
  have bkL_w3 : w.heap.size < w3.heap.size := Nat.lt_of_lt_of_le bkL_W2 hb3.size
  have at0_w3 := (hb3.cell atL_W2).trans at0_W2
  have at1_w3 := (hb3.cell atL_W2).trans at1_W2
  have at2_w3 := (hb3.cell atL_W2).trans at2_W2
  have atF_w3 : ∀ o, w3.frozen? ⟨w.heap.size + 1, o, none⟩ = false := fun o => (hb3.frozen atL_W2).trans (atF_W2 o)
  have atL_w3 : w.heap.size + 1 < w3.heap.size := Nat.lt_of_lt_of_le atL_W2 hb3.size
  have acc_w3 := hidP (acc_W2.out.trans (hb3.mono acc_W2.out.size))
  have sz_w3 : Hid (W2.heap.size ≤ w3.heap.size) := hidP hb3.size
  clear hb3 bk0_W2 bk1_W2 bk2_W2 bkF_W2 bkL_W2 at0_W2 at1_W2 at2_W2 atF_W2 atL_W2 acc_W2
  go_wp2_with fail
  refine (HAd.out _).mono ?_
  rintro e w4 ⟨rfl, hb4⟩
  have bk0_w4 := (hb4.cell bkL_w3).trans bk0_w3
  have bk1_w4 := (hb4.cell bkL_w3).trans bk1_w3
  have bk2_w4 := (hb4.cell bkL_w3).trans bk2_w3
  have bkF_w4 : ∀ o, w4.frozen? ⟨w.heap.size, o, none⟩ = false := fun o => (hb4.frozen bkL_w3).trans (bkF_w3 o)
  have bkL_w4 : w.heap.size < w4.heap.size := Nat.lt_of_lt_of_le bkL_w3 hb4.size
  have at0_w4 := (hb4.cell atL_w3).trans at0_w3
  have at1_w4 := (hb4.cell atL_w3).trans at1_w3
  have at2_w4 := (hb4.cell atL_w3).trans at2_w3
  have atF_w4 : ∀ o, w4.frozen? ⟨w.heap.size + 1, o, none⟩ = false := fun o => (hb4.frozen atL_w3).trans (atF_w3 o)
  have atL_w4 : w.heap.size + 1 < w4.heap.size := Nat.lt_of_lt_of_le atL_w3 hb4.size
  have acc_w4 := hidP (acc_w3.out.trans (hb4.mono acc_w3.out.size))
  have sz_w4 : Hid (w3.heap.size ≤ w4.heap.size) := hidP hb4.size
  clear hb4 bk0_w3 bk1_w3 bk2_w3 bkF_w3 bkL_w3 at0_w3 at1_w3 at2_w3 atF_w3 atL_w3 acc_w3
  go_wp2_with fail
  refine (HOn.out _).mono ?_
  rintro e w5 ⟨rfl, hb5⟩
  rw [hb5]
  clear hb5 w5
  go_wp2_with fail
  refine (HSn.out _).mono ?_
  rintro e w6 ⟨rfl, hb6⟩
  have bk0_w6 := (hb6.cell bkL_w4).trans bk0_w4
  have bk1_w6 := (hb6.cell bkL_w4).trans bk1_w4
  have bk2_w6 := (hb6.cell bkL_w4).trans bk2_w4
  have bkF_w6 : ∀ o, w6.frozen? ⟨w.heap.size, o, none⟩ = false := fun o => (hb6.frozen bkL_w4).trans (bkF_w4 o)
  have bkL_w6 : w.heap.size < w6.heap.size := Nat.lt_of_lt_of_le bkL_w4 hb6.size
  have at0_w6 := (hb6.cell atL_w4).trans at0_w4
  have at1_w6 := (hb6.cell atL_w4).trans at1_w4
  have at2_w6 := (hb6.cell atL_w4).trans at2_w4
  have atF_w6 : ∀ o, w6.frozen? ⟨w.heap.size + 1, o, none⟩ = false := fun o => (hb6.frozen atL_w4).trans (atF_w4 o)
  have atL_w6 : w.heap.size + 1 < w6.heap.size := Nat.lt_of_lt_of_le atL_w4 hb6.size
  have acc_w6 := hidP (acc_w4.out.trans (hb6.mono acc_w4.out.size))
  have sz_w6 : Hid (w4.heap.size ≤ w6.heap.size) := hidP hb6.size
  clear hb6 bk0_w4 bk1_w4 bk2_w4 bkF_w4 bkL_w4 at0_w4 at1_w4 at2_w4 atF_w4 atL_w4 acc_w4
  go_wp2_with fail
  refine (HPl.out _ acc_w6.out).mono ?_
  rintro e w7 ⟨⟨i, hi, hlow, hhig, rfl⟩, hb7⟩
  have HX := hidP (fx_bin HS.out hlow hhig)
  have HLo := hidP (And.intro hlow hhig)
  clear hlow hhig
  have bk0_w7 := (hb7.cell bkL_w6).trans bk0_w6
  have bk1_w7 := (hb7.cell bkL_w6).trans bk1_w6
  have bk2_w7 := (hb7.cell bkL_w6).trans bk2_w6
  have bkF_w7 : ∀ o, w7.frozen? ⟨w.heap.size, o, none⟩ = false := fun o => (hb7.frozen bkL_w6).trans (bkF_w6 o)
  have bkL_w7 : w.heap.size < w7.heap.size := Nat.lt_of_lt_of_le bkL_w6 hb7.size
  have at0_w7 := (hb7.cell atL_w6).trans at0_w6
  have at1_w7 := (hb7.cell atL_w6).trans at1_w6
  have at2_w7 := (hb7.cell atL_w6).trans at2_w6
  have atF_w7 : ∀ o, w7.frozen? ⟨w.heap.size + 1, o, none⟩ = false := fun o => (hb7.frozen atL_w6).trans (atF_w6 o)
  have atL_w7 : w.heap.size + 1 < w7.heap.size := Nat.lt_of_lt_of_le atL_w6 hb7.size
  have acc_w7 := hidP (acc_w6.out.trans (hb7.mono acc_w6.out.size))
  have sz_w7 : Hid (w6.heap.size ≤ w7.heap.size) := hidP hb7.size
  clear hb7 bk0_w6 bk1_w6 bk2_w6 bkF_w6 bkL_w6 at0_w6 at1_w6 at2_w6 atF_w6 atL_w6 acc_w6
  have hf : fndL ls ad i = true := by
    rcases HX.out with ⟨h, _⟩ | ⟨_, h⟩
    · exact h
    · rw [hx] at h; cases h
  rw [hf]
  clear hf
  go_wp2_with fail
  refine bodyPost_ret (v := .tuple #[.int .i64 0, .iface 89 (.agg #[.int .i64 11])]) (by simp [results, Tryz.results25, go_sem]) rfl ?_
  exact ⟨rfl, acc_w7.out⟩

set_option maxRecDepth 10000 in
set_option maxHeartbeats 2000000 in
theorem ptg_many (a : Option Addr) (n c : Nat) (T N : Int) (ls : List Ls) (ad : Ad) (own : ByteArray) (span : Int) (w : World) (hn : n = ls.length) (hB : RowG KLs w a ls) (hl : n ≤ 1048576) (hst : ∀ q ∈ ls, q.t.size ≤ 9223372036854775807) (hos : own.size ≤ 9223372036854775807) (hr : gokB ls T N ad own span = true) (hx : fxL ls ad = none) (h80 : n = 80) :
    Calls Tryz.prog 25 #[.agg #[.slice a n c, .int .i64 T, .int .i64 N], .agg #[.bool ad.s, .int .i64 ad.H.toInt, .int .i64 ad.L.toInt], .string own, .int .i64 span] w fun e w' => e = .returned (.tuple #[.int .i64 0, .iface 89 (.agg #[.int .i64 12])]) ∧ Below w.heap.size w w' := by
  have HIm := hidP (fun W h => iBookOk_any a n c T N ls W hn (hB.later h) hl hst)
  have HAd := hidP (iAddrOk_any ad.s ad.H.toInt ad.L.toInt)
  have HOn := hidP (fun W => iOwnerOk_any own W hos)
  have HSn := hidP (spanOk_any a n c T N span)
  have hok : ad.ok = okB ad.s ad.H.toInt ad.L.toInt := rfl
  unfold gokB at hr
  simp only [Bool.and_eq_true] at hr
  obtain ⟨hb, ho, hw, ⟨⟨h1, h1b⟩, h2⟩, hT0⟩ := hr
  have h1c : (decide (1 ≤ span) && decide (span ≤ 1000)) = true := by rw [h1, h1b]; rfl
  have hsw := sp_wrap (bk_now hb) h1c
  have hs : spB N span = true := by unfold spB; rw [hsw.2, h1c, h2]; rfl
  have hT : (T == 1000000000) = false := by simpa using hT0
  have hT' : ¬ T = 1000000000 := by simpa using hT
  have hsr := (srt_bk hb).1
  have HPl := hidP (fun W h => placeOfLease_any a n c T N ls ad W hn (hB.later h) hl hsr ho)
  rw [hok] at ho
  rw [hb] at HIm
  rw [ho] at HAd
  rw [hw] at HOn
  rw [hs] at HSn
  have HS := hidP hsr
  have HN := hidP hn
  clear hB hn hst hok hos hb ho hw h1 h1b h1c h2 hT0 hsw hs hsr
  have H80 := hidP h80
  clear h80
  go_enter Tryz.func25, Tryz.ntmps25
  go_wp2_with fail
  obtain ⟨bk0_W1, bk1_W1, bk2_W1⟩ := box3B w 26 (.slice a n c) (.int .i64 T) (.int .i64 N)
  have bkF_W1 : ∀ o, (w.alloc (.cells #[.slice a n c, .int .i64 T, .int .i64 N] 26)).frozen? ⟨w.heap.size, o, none⟩ = false := fun o => by simp [go_sem]
  have bkL_W1 : w.heap.size < (w.alloc (.cells #[.slice a n c, .int .i64 T, .int .i64 N] 26)).heap.size := by simp
  have ab_W1 := alloc_below w (.cells #[.slice a n c, .int .i64 T, .int .i64 N] 26)
  have as_W1 : Hid ((w.alloc (.cells #[.slice a n c, .int .i64 T, .int .i64 N] 26)).heap.size = w.heap.size + 1) := hidP (by simp)
  generalize w.alloc (.cells #[.slice a n c, .int .i64 T, .int .i64 N] 26) = W1 at *
  have acc_W1 := hidP (ab_W1)
  have sz_W1 : Hid (w.heap.size ≤ W1.heap.size) := hidP ab_W1.size
  clear ab_W1 
  obtain ⟨at0_W2, at1_W2, at2_W2⟩ := box3B W1 28 (.bool ad.s) (.int .i64 ad.H.toInt) (.int .i64 ad.L.toInt)
  have atF_W2 : ∀ o, (W1.alloc (.cells #[.bool ad.s, .int .i64 ad.H.toInt, .int .i64 ad.L.toInt] 28)).frozen? ⟨W1.heap.size, o, none⟩ = false := fun o => by simp [go_sem]
  have atL_W2 : W1.heap.size < (W1.alloc (.cells #[.bool ad.s, .int .i64 ad.H.toInt, .int .i64 ad.L.toInt] 28)).heap.size := by simp
  have ab_W2 := alloc_below W1 (.cells #[.bool ad.s, .int .i64 ad.H.toInt, .int .i64 ad.L.toInt] 28)
  have as_W2 : Hid ((W1.alloc (.cells #[.bool ad.s, .int .i64 ad.H.toInt, .int .i64 ad.L.toInt] 28)).heap.size = W1.heap.size + 1) := hidP (by simp)
  generalize W1.alloc (.cells #[.bool ad.s, .int .i64 ad.H.toInt, .int .i64 ad.L.toInt] 28) = W2 at *
  have bk0_W2 := (ab_W2.cell bkL_W1).trans bk0_W1
  have bk1_W2 := (ab_W2.cell bkL_W1).trans bk1_W1
  have bk2_W2 := (ab_W2.cell bkL_W1).trans bk2_W1
  have bkF_W2 : ∀ o, W2.frozen? ⟨w.heap.size, o, none⟩ = false := fun o => (ab_W2.frozen bkL_W1).trans (bkF_W1 o)
  have bkL_W2 : w.heap.size < W2.heap.size := Nat.lt_of_lt_of_le bkL_W1 ab_W2.size
  have acc_W2 := hidP (acc_W1.out.trans (ab_W2.mono acc_W1.out.size))
  have sz_W2 : Hid (W1.heap.size ≤ W2.heap.size) := hidP ab_W2.size
  clear ab_W2 bk0_W1 bk1_W1 bk2_W1 bkF_W1 bkL_W1 acc_W1
  rw [as_W1.out] at at0_W2 at1_W2 at2_W2 atL_W2
  have atF_W2' : ∀ o, W2.frozen? ⟨w.heap.size + 1, o, none⟩ = false := fun o => by have := atF_W2 o; rw [as_W1.out] at this; exact this
  clear atF_W2
  have atF_W2 := atF_W2'
  clear atF_W2'
  refine (HIm.out _ acc_W2.out).mono ?_
  rintro e w3 ⟨rfl, hb3⟩
  have bk0_w3 := (hb3.cell bkL_W2).trans bk0_W2
  have bk1_w3 := (hb3.cell bkL_W2).trans bk1_W2
  have bk2_w3 := (hb3.cell bkL_W2).trans bk2_W2
  have bkF_w3 : ∀ o, w3.frozen? ⟨w.heap.size, o, none⟩ = false := fun o => (hb3.frozen bkL_W2).trans (bkF_W2 o)
  have bkL_w3 : w.heap.size < w3.heap.size := Nat.lt_of_lt_of_le bkL_W2 hb3.size
  have at0_w3 := (hb3.cell atL_W2).trans at0_W2
  have at1_w3 := (hb3.cell atL_W2).trans at1_W2
  have at2_w3 := (hb3.cell atL_W2).trans at2_W2
  have atF_w3 : ∀ o, w3.frozen? ⟨w.heap.size + 1, o, none⟩ = false := fun o => (hb3.frozen atL_W2).trans (atF_W2 o)
  have atL_w3 : w.heap.size + 1 < w3.heap.size := Nat.lt_of_lt_of_le atL_W2 hb3.size
  have acc_w3 := hidP (acc_W2.out.trans (hb3.mono acc_W2.out.size))
  have sz_w3 : Hid (W2.heap.size ≤ w3.heap.size) := hidP hb3.size
  clear hb3 bk0_W2 bk1_W2 bk2_W2 bkF_W2 bkL_W2 at0_W2 at1_W2 at2_W2 atF_W2 atL_W2 acc_W2
  go_wp2_with fail
  refine (HAd.out _).mono ?_
  rintro e w4 ⟨rfl, hb4⟩
  have bk0_w4 := (hb4.cell bkL_w3).trans bk0_w3
  have bk1_w4 := (hb4.cell bkL_w3).trans bk1_w3
  have bk2_w4 := (hb4.cell bkL_w3).trans bk2_w3
  have bkF_w4 : ∀ o, w4.frozen? ⟨w.heap.size, o, none⟩ = false := fun o => (hb4.frozen bkL_w3).trans (bkF_w3 o)
  have bkL_w4 : w.heap.size < w4.heap.size := Nat.lt_of_lt_of_le bkL_w3 hb4.size
  have at0_w4 := (hb4.cell atL_w3).trans at0_w3
  have at1_w4 := (hb4.cell atL_w3).trans at1_w3
  have at2_w4 := (hb4.cell atL_w3).trans at2_w3
  have atF_w4 : ∀ o, w4.frozen? ⟨w.heap.size + 1, o, none⟩ = false := fun o => (hb4.frozen atL_w3).trans (atF_w3 o)
  have atL_w4 : w.heap.size + 1 < w4.heap.size := Nat.lt_of_lt_of_le atL_w3 hb4.size
  have acc_w4 := hidP (acc_w3.out.trans (hb4.mono acc_w3.out.size))
  have sz_w4 : Hid (w3.heap.size ≤ w4.heap.size) := hidP hb4.size
  clear hb4 bk0_w3 bk1_w3 bk2_w3 bkF_w3 bkL_w3 at0_w3 at1_w3 at2_w3 atF_w3 atL_w3 acc_w3
  go_wp2_with fail
  refine (HOn.out _).mono ?_
  rintro e w5 ⟨rfl, hb5⟩
  rw [hb5]
  clear hb5 w5
  go_wp2_with fail
  refine (HSn.out _).mono ?_
  rintro e w6 ⟨rfl, hb6⟩
  have bk0_w6 := (hb6.cell bkL_w4).trans bk0_w4
  have bk1_w6 := (hb6.cell bkL_w4).trans bk1_w4
  have bk2_w6 := (hb6.cell bkL_w4).trans bk2_w4
  have bkF_w6 : ∀ o, w6.frozen? ⟨w.heap.size, o, none⟩ = false := fun o => (hb6.frozen bkL_w4).trans (bkF_w4 o)
  have bkL_w6 : w.heap.size < w6.heap.size := Nat.lt_of_lt_of_le bkL_w4 hb6.size
  have at0_w6 := (hb6.cell atL_w4).trans at0_w4
  have at1_w6 := (hb6.cell atL_w4).trans at1_w4
  have at2_w6 := (hb6.cell atL_w4).trans at2_w4
  have atF_w6 : ∀ o, w6.frozen? ⟨w.heap.size + 1, o, none⟩ = false := fun o => (hb6.frozen atL_w4).trans (atF_w4 o)
  have atL_w6 : w.heap.size + 1 < w6.heap.size := Nat.lt_of_lt_of_le atL_w4 hb6.size
  have acc_w6 := hidP (acc_w4.out.trans (hb6.mono acc_w4.out.size))
  have sz_w6 : Hid (w4.heap.size ≤ w6.heap.size) := hidP hb6.size
  clear hb6 bk0_w4 bk1_w4 bk2_w4 bkF_w4 bkL_w4 at0_w4 at1_w4 at2_w4 atF_w4 atL_w4 acc_w4
  go_wp2_with fail
  refine (HPl.out _ acc_w6.out).mono ?_
  rintro e w7 ⟨⟨i, hi, hlow, hhig, rfl⟩, hb7⟩
  have HX := hidP (fx_bin HS.out hlow hhig)
  have HLo := hidP (And.intro hlow hhig)
  clear hlow hhig
  have bk0_w7 := (hb7.cell bkL_w6).trans bk0_w6
  have bk1_w7 := (hb7.cell bkL_w6).trans bk1_w6
  have bk2_w7 := (hb7.cell bkL_w6).trans bk2_w6
  have bkF_w7 : ∀ o, w7.frozen? ⟨w.heap.size, o, none⟩ = false := fun o => (hb7.frozen bkL_w6).trans (bkF_w6 o)
  have bkL_w7 : w.heap.size < w7.heap.size := Nat.lt_of_lt_of_le bkL_w6 hb7.size
  have at0_w7 := (hb7.cell atL_w6).trans at0_w6
  have at1_w7 := (hb7.cell atL_w6).trans at1_w6
  have at2_w7 := (hb7.cell atL_w6).trans at2_w6
  have atF_w7 : ∀ o, w7.frozen? ⟨w.heap.size + 1, o, none⟩ = false := fun o => (hb7.frozen atL_w6).trans (atF_w6 o)
  have atL_w7 : w.heap.size + 1 < w7.heap.size := Nat.lt_of_lt_of_le atL_w6 hb7.size
  have acc_w7 := hidP (acc_w6.out.trans (hb7.mono acc_w6.out.size))
  have sz_w7 : Hid (w6.heap.size ≤ w7.heap.size) := hidP hb7.size
  clear hb7 bk0_w6 bk1_w6 bk2_w6 bkF_w6 bkL_w6 at0_w6 at1_w6 at2_w6 atF_w6 atL_w6 acc_w6
  have hf : fndL ls ad i = false := by
    rcases HX.out with ⟨_, h⟩ | ⟨h, _⟩
    · rw [hx] at h; cases h
    · exact h
  rw [hf]
  clear hf
  have e80 : ((n : Int) == 80) = true := by rw [H80.out]; rfl
  go_wp2_with fail
  refine bodyPost_ret (v := .tuple #[.int .i64 0, .iface 89 (.agg #[.int .i64 12])]) (by simp [results, Tryz.results25, go_sem]) rfl ?_
  exact ⟨rfl, acc_w7.out⟩

set_option maxRecDepth 10000 in
set_option maxHeartbeats 2000000 in
theorem ptg_yes (a : Option Addr) (n c : Nat) (T N : Int) (ls : List Ls) (ad : Ad) (own : ByteArray) (span : Int) (w : World) (hn : n = ls.length) (hB : RowG KLs w a ls) (hl : n ≤ 1048576) (hst : ∀ q ∈ ls, q.t.size ≤ 9223372036854775807) (hos : own.size ≤ 9223372036854775807) (hr : gokB ls T N ad own span = true) (hx : fxL ls ad = none) (h80 : ¬ n = 80) (I : Nat) (hI : LowAt ls ad I) :
    Calls Tryz.prog 25 #[.agg #[.slice a n c, .int .i64 T, .int .i64 N], .agg #[.bool ad.s, .int .i64 ad.H.toInt, .int .i64 ad.L.toInt], .string own, .int .i64 span] w fun e w' => e = .returned (.tuple #[.int .i64 I, .nilIface]) ∧ Below w.heap.size w w' := by
  have HIm := hidP (fun W h => iBookOk_any a n c T N ls W hn (hB.later h) hl hst)
  have HAd := hidP (iAddrOk_any ad.s ad.H.toInt ad.L.toInt)
  have HOn := hidP (fun W => iOwnerOk_any own W hos)
  have HSn := hidP (spanOk_any a n c T N span)
  have hok : ad.ok = okB ad.s ad.H.toInt ad.L.toInt := rfl
  unfold gokB at hr
  simp only [Bool.and_eq_true] at hr
  obtain ⟨hb, ho, hw, ⟨⟨h1, h1b⟩, h2⟩, hT0⟩ := hr
  have h1c : (decide (1 ≤ span) && decide (span ≤ 1000)) = true := by rw [h1, h1b]; rfl
  have hsw := sp_wrap (bk_now hb) h1c
  have hs : spB N span = true := by unfold spB; rw [hsw.2, h1c, h2]; rfl
  have hT : (T == 1000000000) = false := by simpa using hT0
  have hT' : ¬ T = 1000000000 := by simpa using hT
  have hsr := (srt_bk hb).1
  have HPl := hidP (fun W h => placeOfLease_any a n c T N ls ad W hn (hB.later h) hl hsr ho)
  rw [hok] at ho
  rw [hb] at HIm
  rw [ho] at HAd
  rw [hw] at HOn
  rw [hs] at HSn
  have HS := hidP hsr
  have HN := hidP hn
  clear hB hn hst hok hos hb ho hw h1 h1b h1c h2 hT0 hsw hs hsr
  go_enter Tryz.func25, Tryz.ntmps25
  go_wp2_with fail
  obtain ⟨bk0_W1, bk1_W1, bk2_W1⟩ := box3B w 26 (.slice a n c) (.int .i64 T) (.int .i64 N)
  have bkF_W1 : ∀ o, (w.alloc (.cells #[.slice a n c, .int .i64 T, .int .i64 N] 26)).frozen? ⟨w.heap.size, o, none⟩ = false := fun o => by simp [go_sem]
  have bkL_W1 : w.heap.size < (w.alloc (.cells #[.slice a n c, .int .i64 T, .int .i64 N] 26)).heap.size := by simp
  have ab_W1 := alloc_below w (.cells #[.slice a n c, .int .i64 T, .int .i64 N] 26)
  have as_W1 : Hid ((w.alloc (.cells #[.slice a n c, .int .i64 T, .int .i64 N] 26)).heap.size = w.heap.size + 1) := hidP (by simp)
  generalize w.alloc (.cells #[.slice a n c, .int .i64 T, .int .i64 N] 26) = W1 at *
  have acc_W1 := hidP (ab_W1)
  have sz_W1 : Hid (w.heap.size ≤ W1.heap.size) := hidP ab_W1.size
  clear ab_W1 
  obtain ⟨at0_W2, at1_W2, at2_W2⟩ := box3B W1 28 (.bool ad.s) (.int .i64 ad.H.toInt) (.int .i64 ad.L.toInt)
  have atF_W2 : ∀ o, (W1.alloc (.cells #[.bool ad.s, .int .i64 ad.H.toInt, .int .i64 ad.L.toInt] 28)).frozen? ⟨W1.heap.size, o, none⟩ = false := fun o => by simp [go_sem]
  have atL_W2 : W1.heap.size < (W1.alloc (.cells #[.bool ad.s, .int .i64 ad.H.toInt, .int .i64 ad.L.toInt] 28)).heap.size := by simp
  have ab_W2 := alloc_below W1 (.cells #[.bool ad.s, .int .i64 ad.H.toInt, .int .i64 ad.L.toInt] 28)
  have as_W2 : Hid ((W1.alloc (.cells #[.bool ad.s, .int .i64 ad.H.toInt, .int .i64 ad.L.toInt] 28)).heap.size = W1.heap.size + 1) := hidP (by simp)
  generalize W1.alloc (.cells #[.bool ad.s, .int .i64 ad.H.toInt, .int .i64 ad.L.toInt] 28) = W2 at *
  have bk0_W2 := (ab_W2.cell bkL_W1).trans bk0_W1
  have bk1_W2 := (ab_W2.cell bkL_W1).trans bk1_W1
  have bk2_W2 := (ab_W2.cell bkL_W1).trans bk2_W1
  have bkF_W2 : ∀ o, W2.frozen? ⟨w.heap.size, o, none⟩ = false := fun o => (ab_W2.frozen bkL_W1).trans (bkF_W1 o)
  have bkL_W2 : w.heap.size < W2.heap.size := Nat.lt_of_lt_of_le bkL_W1 ab_W2.size
  have acc_W2 := hidP (acc_W1.out.trans (ab_W2.mono acc_W1.out.size))
  have sz_W2 : Hid (W1.heap.size ≤ W2.heap.size) := hidP ab_W2.size
  clear ab_W2 bk0_W1 bk1_W1 bk2_W1 bkF_W1 bkL_W1 acc_W1
  rw [as_W1.out] at at0_W2 at1_W2 at2_W2 atL_W2
  have atF_W2' : ∀ o, W2.frozen? ⟨w.heap.size + 1, o, none⟩ = false := fun o => by have := atF_W2 o; rw [as_W1.out] at this; exact this
  clear atF_W2
  have atF_W2 := atF_W2'
  clear atF_W2'
  refine (HIm.out _ acc_W2.out).mono ?_
  rintro e w3 ⟨rfl, hb3⟩
  have bk0_w3 := (hb3.cell bkL_W2).trans bk0_W2
  have bk1_w3 := (hb3.cell bkL_W2).trans bk1_W2
  have bk2_w3 := (hb3.cell bkL_W2).trans bk2_W2
  have bkF_w3 : ∀ o, w3.frozen? ⟨w.heap.size, o, none⟩ = false := fun o => (hb3.frozen bkL_W2).trans (bkF_W2 o)
  have bkL_w3 : w.heap.size < w3.heap.size := Nat.lt_of_lt_of_le bkL_W2 hb3.size
  have at0_w3 := (hb3.cell atL_W2).trans at0_W2
  have at1_w3 := (hb3.cell atL_W2).trans at1_W2
  have at2_w3 := (hb3.cell atL_W2).trans at2_W2
  have atF_w3 : ∀ o, w3.frozen? ⟨w.heap.size + 1, o, none⟩ = false := fun o => (hb3.frozen atL_W2).trans (atF_W2 o)
  have atL_w3 : w.heap.size + 1 < w3.heap.size := Nat.lt_of_lt_of_le atL_W2 hb3.size
  have acc_w3 := hidP (acc_W2.out.trans (hb3.mono acc_W2.out.size))
  have sz_w3 : Hid (W2.heap.size ≤ w3.heap.size) := hidP hb3.size
  clear hb3 bk0_W2 bk1_W2 bk2_W2 bkF_W2 bkL_W2 at0_W2 at1_W2 at2_W2 atF_W2 atL_W2 acc_W2
  go_wp2_with fail
  refine (HAd.out _).mono ?_
  rintro e w4 ⟨rfl, hb4⟩
  have bk0_w4 := (hb4.cell bkL_w3).trans bk0_w3
  have bk1_w4 := (hb4.cell bkL_w3).trans bk1_w3
  have bk2_w4 := (hb4.cell bkL_w3).trans bk2_w3
  have bkF_w4 : ∀ o, w4.frozen? ⟨w.heap.size, o, none⟩ = false := fun o => (hb4.frozen bkL_w3).trans (bkF_w3 o)
  have bkL_w4 : w.heap.size < w4.heap.size := Nat.lt_of_lt_of_le bkL_w3 hb4.size
  have at0_w4 := (hb4.cell atL_w3).trans at0_w3
  have at1_w4 := (hb4.cell atL_w3).trans at1_w3
  have at2_w4 := (hb4.cell atL_w3).trans at2_w3
  have atF_w4 : ∀ o, w4.frozen? ⟨w.heap.size + 1, o, none⟩ = false := fun o => (hb4.frozen atL_w3).trans (atF_w3 o)
  have atL_w4 : w.heap.size + 1 < w4.heap.size := Nat.lt_of_lt_of_le atL_w3 hb4.size
  have acc_w4 := hidP (acc_w3.out.trans (hb4.mono acc_w3.out.size))
  have sz_w4 : Hid (w3.heap.size ≤ w4.heap.size) := hidP hb4.size
  clear hb4 bk0_w3 bk1_w3 bk2_w3 bkF_w3 bkL_w3 at0_w3 at1_w3 at2_w3 atF_w3 atL_w3 acc_w3
  go_wp2_with fail
  refine (HOn.out _).mono ?_
  rintro e w5 ⟨rfl, hb5⟩
  rw [hb5]
  clear hb5 w5
  go_wp2_with fail
  refine (HSn.out _).mono ?_
  rintro e w6 ⟨rfl, hb6⟩
  have bk0_w6 := (hb6.cell bkL_w4).trans bk0_w4
  have bk1_w6 := (hb6.cell bkL_w4).trans bk1_w4
  have bk2_w6 := (hb6.cell bkL_w4).trans bk2_w4
  have bkF_w6 : ∀ o, w6.frozen? ⟨w.heap.size, o, none⟩ = false := fun o => (hb6.frozen bkL_w4).trans (bkF_w4 o)
  have bkL_w6 : w.heap.size < w6.heap.size := Nat.lt_of_lt_of_le bkL_w4 hb6.size
  have at0_w6 := (hb6.cell atL_w4).trans at0_w4
  have at1_w6 := (hb6.cell atL_w4).trans at1_w4
  have at2_w6 := (hb6.cell atL_w4).trans at2_w4
  have atF_w6 : ∀ o, w6.frozen? ⟨w.heap.size + 1, o, none⟩ = false := fun o => (hb6.frozen atL_w4).trans (atF_w4 o)
  have atL_w6 : w.heap.size + 1 < w6.heap.size := Nat.lt_of_lt_of_le atL_w4 hb6.size
  have acc_w6 := hidP (acc_w4.out.trans (hb6.mono acc_w4.out.size))
  have sz_w6 : Hid (w4.heap.size ≤ w6.heap.size) := hidP hb6.size
  clear hb6 bk0_w4 bk1_w4 bk2_w4 bkF_w4 bkL_w4 at0_w4 at1_w4 at2_w4 atF_w4 atL_w4 acc_w4
  go_wp2_with fail
  refine (HPl.out _ acc_w6.out).mono ?_
  rintro e w7 ⟨⟨i, hi, hlow, hhig, rfl⟩, hb7⟩
  have HX := hidP (fx_bin HS.out hlow hhig)
  have HLo := hidP (And.intro hlow hhig)
  clear hlow hhig
  have bk0_w7 := (hb7.cell bkL_w6).trans bk0_w6
  have bk1_w7 := (hb7.cell bkL_w6).trans bk1_w6
  have bk2_w7 := (hb7.cell bkL_w6).trans bk2_w6
  have bkF_w7 : ∀ o, w7.frozen? ⟨w.heap.size, o, none⟩ = false := fun o => (hb7.frozen bkL_w6).trans (bkF_w6 o)
  have bkL_w7 : w.heap.size < w7.heap.size := Nat.lt_of_lt_of_le bkL_w6 hb7.size
  have at0_w7 := (hb7.cell atL_w6).trans at0_w6
  have at1_w7 := (hb7.cell atL_w6).trans at1_w6
  have at2_w7 := (hb7.cell atL_w6).trans at2_w6
  have atF_w7 : ∀ o, w7.frozen? ⟨w.heap.size + 1, o, none⟩ = false := fun o => (hb7.frozen atL_w6).trans (atF_w6 o)
  have atL_w7 : w.heap.size + 1 < w7.heap.size := Nat.lt_of_lt_of_le atL_w6 hb7.size
  have acc_w7 := hidP (acc_w6.out.trans (hb7.mono acc_w6.out.size))
  have sz_w7 : Hid (w6.heap.size ≤ w7.heap.size) := hidP hb7.size
  clear hb7 bk0_w6 bk1_w6 bk2_w6 bkF_w6 bkL_w6 at0_w6 at1_w6 at2_w6 atF_w6 atL_w6 acc_w6
  have hf : fndL ls ad i = false := by
    rcases HX.out with ⟨_, h⟩ | ⟨h, _⟩
    · rw [hx] at h; cases h
    · exact h
  rw [hf]
  clear hf
  have e80 : ((n : Int) == 80) = false := by rw [beq_eq_false_iff_ne]; omega
  have hiI : i = I := low_one ⟨by rw [← HN.out]; exact hi, HLo.out.1, HLo.out.2⟩ hI
  subst hiI
  go_wp2_with fail
  refine bodyPost_ret (v := .tuple #[.int .i64 i, .nilIface]) (by simp [results, Tryz.results25, go_sem]) rfl ?_
  exact ⟨rfl, acc_w7.out⟩

end Go.Proofs.YtddnofonodgneaaGreatDoor
namespace Go.Proofs.YtddnofonodgneaaGreatDoor
open Go.RowKit

set_option maxRecDepth 10000 in
set_option maxHeartbeats 4000000 in
theorem iGr_no (a : Option Addr) (n c : Nat) (T N : Int) (ls : List Ls) (ad : Ad) (own : ByteArray) (span : Int) (w : World) (hn : n = ls.length) (hB : RowG KLs w a ls) (hl : n ≤ 1048576) (x : Int) (HP : ∀ W a c, RowG KLs W a ls → Calls Tryz.prog 25 #[.agg #[.slice a n c, .int .i64 T, .int .i64 N], .agg #[.bool ad.s, .int .i64 ad.H.toInt, .int .i64 ad.L.toInt], .string own, .int .i64 span] W fun e w' => e = .returned (.tuple #[.int .i64 0, .iface 89 (.agg #[.int .i64 x])]) ∧ Below W.heap.size W w') (hg : GlobE w) :
    Calls Tryz.prog 7 #[.agg #[.slice a n c, .int .i64 T, .int .i64 N], .agg #[.bool ad.s, .int .i64 ad.H.toInt, .int .i64 ad.L.toInt], .string own, .int .i64 span] w fun e w' => ∃ a' c', e = .returned (.tuple #[.agg #[.slice a' n c', .int .i64 T, .int .i64 N], .int .i64 0, .int .i64 x]) ∧ OwnG KLs 35 w' w.heap.size (.slice a' n c') (ls) ∧ Below w.heap.size w w' := by
  have HOw := hidP (fun W h => ownBook_any a n c T N ls W hn (hB.later h) hl)
  have HPh := hidP HP
  have HN := hidP hn
  clear hB hn HP
  have HG := hidP hg
  clear hg
  go_enter Tryz.func7, Tryz.ntmps7
  go_wp2_with fail
  obtain ⟨bk0_W1, bk1_W1, bk2_W1⟩ := box3B w 26 (.slice a n c) (.int .i64 T) (.int .i64 N)
  have bkF_W1 : ∀ o, (w.alloc (.cells #[.slice a n c, .int .i64 T, .int .i64 N] 26)).frozen? ⟨w.heap.size, o, none⟩ = false := fun o => by simp [go_sem]
  have bkL_W1 : w.heap.size < (w.alloc (.cells #[.slice a n c, .int .i64 T, .int .i64 N] 26)).heap.size := by simp
  have ab_W1 := alloc_below w (.cells #[.slice a n c, .int .i64 T, .int .i64 N] 26)
  have as_W1 : Hid ((w.alloc (.cells #[.slice a n c, .int .i64 T, .int .i64 N] 26)).heap.size = w.heap.size + 1) := hidP (by simp)
  generalize w.alloc (.cells #[.slice a n c, .int .i64 T, .int .i64 N] 26) = W1 at *
  have acc_W1 := hidP (ab_W1)
  have sz_W1 : Hid (w.heap.size ≤ W1.heap.size) := hidP ab_W1.size
  clear ab_W1 
  obtain ⟨at0_W2, at1_W2, at2_W2⟩ := box3B W1 28 (.bool ad.s) (.int .i64 ad.H.toInt) (.int .i64 ad.L.toInt)
  have atF_W2 : ∀ o, (W1.alloc (.cells #[.bool ad.s, .int .i64 ad.H.toInt, .int .i64 ad.L.toInt] 28)).frozen? ⟨W1.heap.size, o, none⟩ = false := fun o => by simp [go_sem]
  have atL_W2 : W1.heap.size < (W1.alloc (.cells #[.bool ad.s, .int .i64 ad.H.toInt, .int .i64 ad.L.toInt] 28)).heap.size := by simp
  have ab_W2 := alloc_below W1 (.cells #[.bool ad.s, .int .i64 ad.H.toInt, .int .i64 ad.L.toInt] 28)
  have as_W2 : Hid ((W1.alloc (.cells #[.bool ad.s, .int .i64 ad.H.toInt, .int .i64 ad.L.toInt] 28)).heap.size = W1.heap.size + 1) := hidP (by simp)
  generalize W1.alloc (.cells #[.bool ad.s, .int .i64 ad.H.toInt, .int .i64 ad.L.toInt] 28) = W2 at *
  have bk0_W2 := (ab_W2.cell bkL_W1).trans bk0_W1
  have bk1_W2 := (ab_W2.cell bkL_W1).trans bk1_W1
  have bk2_W2 := (ab_W2.cell bkL_W1).trans bk2_W1
  have bkF_W2 : ∀ o, W2.frozen? ⟨w.heap.size, o, none⟩ = false := fun o => (ab_W2.frozen bkL_W1).trans (bkF_W1 o)
  have bkL_W2 : w.heap.size < W2.heap.size := Nat.lt_of_lt_of_le bkL_W1 ab_W2.size
  have acc_W2 := hidP (acc_W1.out.trans (ab_W2.mono acc_W1.out.size))
  have sz_W2 : Hid (W1.heap.size ≤ W2.heap.size) := hidP ab_W2.size
  clear ab_W2 bk0_W1 bk1_W1 bk2_W1 bkF_W1 bkL_W1 acc_W1
  rw [as_W1.out] at at0_W2 at1_W2 at2_W2 atL_W2
  have atF_W2' : ∀ o, W2.frozen? ⟨w.heap.size + 1, o, none⟩ = false := fun o => by have := atF_W2 o; rw [as_W1.out] at this; exact this
  clear atF_W2
  have atF_W2 := atF_W2'
  clear atF_W2'
  obtain ⟨rs0_W3, rs1_W3, rs2_W3⟩ := box3B W2 26 (.slice none 0 0) (.int .i64 0) (.int .i64 0)
  have rsF_W3 : ∀ o, (W2.alloc (.cells #[.slice none 0 0, .int .i64 0, .int .i64 0] 26)).frozen? ⟨W2.heap.size, o, none⟩ = false := fun o => by simp [go_sem]
  have rsL_W3 : W2.heap.size < (W2.alloc (.cells #[.slice none 0 0, .int .i64 0, .int .i64 0] 26)).heap.size := by simp
  have ab_W3 := alloc_below W2 (.cells #[.slice none 0 0, .int .i64 0, .int .i64 0] 26)
  have as_W3 : Hid ((W2.alloc (.cells #[.slice none 0 0, .int .i64 0, .int .i64 0] 26)).heap.size = W2.heap.size + 1) := hidP (by simp)
  generalize W2.alloc (.cells #[.slice none 0 0, .int .i64 0, .int .i64 0] 26) = W3 at *
  have bk0_W3 := (ab_W3.cell bkL_W2).trans bk0_W2
  have bk1_W3 := (ab_W3.cell bkL_W2).trans bk1_W2
  have bk2_W3 := (ab_W3.cell bkL_W2).trans bk2_W2
  have bkF_W3 : ∀ o, W3.frozen? ⟨w.heap.size, o, none⟩ = false := fun o => (ab_W3.frozen bkL_W2).trans (bkF_W2 o)
  have bkL_W3 : w.heap.size < W3.heap.size := Nat.lt_of_lt_of_le bkL_W2 ab_W3.size
  have at0_W3 := (ab_W3.cell atL_W2).trans at0_W2
  have at1_W3 := (ab_W3.cell atL_W2).trans at1_W2
  have at2_W3 := (ab_W3.cell atL_W2).trans at2_W2
  have atF_W3 : ∀ o, W3.frozen? ⟨w.heap.size + 1, o, none⟩ = false := fun o => (ab_W3.frozen atL_W2).trans (atF_W2 o)
  have atL_W3 : w.heap.size + 1 < W3.heap.size := Nat.lt_of_lt_of_le atL_W2 ab_W3.size
  have acc_W3 := hidP (acc_W2.out.trans (ab_W3.mono acc_W2.out.size))
  have sz_W3 : Hid (W2.heap.size ≤ W3.heap.size) := hidP ab_W3.size
  clear ab_W3 bk0_W2 bk1_W2 bk2_W2 bkF_W2 bkL_W2 at0_W2 at1_W2 at2_W2 atF_W2 atL_W2 acc_W2
  rw [as_W2.out, as_W1.out] at rs0_W3 rs1_W3 rs2_W3 rsL_W3
  have rsF_W3' : ∀ o, W3.frozen? ⟨w.heap.size + 1 + 1, o, none⟩ = false := fun o => by have := rsF_W3 o; rw [as_W2.out, as_W1.out] at this; exact this
  clear rsF_W3
  have rsF_W3 := rsF_W3'
  clear rsF_W3'
  refine (HOw.out _ acc_W3.out).mono ?_
  rintro e w4 ⟨a3, c3, rfl, og3, hb4⟩
  have og3' := hidP og3
  clear og3
  have bk0_w4 := (hb4.cell bkL_W3).trans bk0_W3
  have bk1_w4 := (hb4.cell bkL_W3).trans bk1_W3
  have bk2_w4 := (hb4.cell bkL_W3).trans bk2_W3
  have bkF_w4 : ∀ o, w4.frozen? ⟨w.heap.size, o, none⟩ = false := fun o => (hb4.frozen bkL_W3).trans (bkF_W3 o)
  have bkL_w4 : w.heap.size < w4.heap.size := Nat.lt_of_lt_of_le bkL_W3 hb4.size
  have at0_w4 := (hb4.cell atL_W3).trans at0_W3
  have at1_w4 := (hb4.cell atL_W3).trans at1_W3
  have at2_w4 := (hb4.cell atL_W3).trans at2_W3
  have atF_w4 : ∀ o, w4.frozen? ⟨w.heap.size + 1, o, none⟩ = false := fun o => (hb4.frozen atL_W3).trans (atF_W3 o)
  have atL_w4 : w.heap.size + 1 < w4.heap.size := Nat.lt_of_lt_of_le atL_W3 hb4.size
  have rs0_w4 := (hb4.cell rsL_W3).trans rs0_W3
  have rs1_w4 := (hb4.cell rsL_W3).trans rs1_W3
  have rs2_w4 := (hb4.cell rsL_W3).trans rs2_W3
  have rsF_w4 : ∀ o, w4.frozen? ⟨w.heap.size + 1 + 1, o, none⟩ = false := fun o => (hb4.frozen rsL_W3).trans (rsF_W3 o)
  have rsL_w4 : w.heap.size + 1 + 1 < w4.heap.size := Nat.lt_of_lt_of_le rsL_W3 hb4.size
  have acc_w4 := hidP (acc_W3.out.trans (hb4.mono acc_W3.out.size))
  have sz_w4 : Hid (W3.heap.size ≤ w4.heap.size) := hidP hb4.size
  clear hb4 bk0_W3 bk1_W3 bk2_W3 bkF_W3 bkL_W3 at0_W3 at1_W3 at2_W3 atF_W3 atL_W3 rs0_W3 rs1_W3 rs2_W3 rsF_W3 rsL_W3 acc_W3
  have oL_w4 := hidP (og3'.out)
  have lhL : Hid (∀ k, (Value.slice a3 n c3).ownBlock = some k → W3.heap.size ≤ k ∧ k < w4.heap.size) := hidP (fun k hk => OwnG.lt oL_w4.out k hk)
  clear og3'
  go_wp2_with fail
  have bk0_W5 : (((w4.setCell ⟨w.heap.size, 0, none⟩ (.slice a3 n c3)).setCell ⟨w.heap.size, 1, none⟩ (.int .i64 T)).setCell ⟨w.heap.size, 2, none⟩ (.int .i64 N)).cell? ⟨w.heap.size, 0, none⟩ = some (.slice a3 n c3) := by simp [go_sem, bk0_w4]
  have bk1_W5 : (((w4.setCell ⟨w.heap.size, 0, none⟩ (.slice a3 n c3)).setCell ⟨w.heap.size, 1, none⟩ (.int .i64 T)).setCell ⟨w.heap.size, 2, none⟩ (.int .i64 N)).cell? ⟨w.heap.size, 1, none⟩ = some (.int .i64 T) := by simp [go_sem, bk1_w4]
  have bk2_W5 : (((w4.setCell ⟨w.heap.size, 0, none⟩ (.slice a3 n c3)).setCell ⟨w.heap.size, 1, none⟩ (.int .i64 T)).setCell ⟨w.heap.size, 2, none⟩ (.int .i64 N)).cell? ⟨w.heap.size, 2, none⟩ = some (.int .i64 N) := by simp [go_sem, bk2_w4]
  have bkF_W5 : ∀ o, (((w4.setCell ⟨w.heap.size, 0, none⟩ (.slice a3 n c3)).setCell ⟨w.heap.size, 1, none⟩ (.int .i64 T)).setCell ⟨w.heap.size, 2, none⟩ (.int .i64 N)).frozen? ⟨w.heap.size, o, none⟩ = false := fun o => frz_set1 (frz_set1 (frz_set1 ((bkF_w4 o))))
  have bkL_W5 : w.heap.size < (((w4.setCell ⟨w.heap.size, 0, none⟩ (.slice a3 n c3)).setCell ⟨w.heap.size, 1, none⟩ (.int .i64 T)).setCell ⟨w.heap.size, 2, none⟩ (.int .i64 N)).heap.size := by simpa using bkL_w4
  have at0_W5 : (((w4.setCell ⟨w.heap.size, 0, none⟩ (.slice a3 n c3)).setCell ⟨w.heap.size, 1, none⟩ (.int .i64 T)).setCell ⟨w.heap.size, 2, none⟩ (.int .i64 N)).cell? ⟨w.heap.size + 1, 0, none⟩ = some (.bool ad.s) := cell_set1 (cell_set1 (cell_set1 (at0_w4) (by have := as_W1.out; have := sz_W1.out; have := as_W2.out; have := sz_W2.out; have := as_W3.out; have := sz_W3.out; have := sz_w4.out; omega)) (by have := as_W1.out; have := sz_W1.out; have := as_W2.out; have := sz_W2.out; have := as_W3.out; have := sz_W3.out; have := sz_w4.out; omega)) (by have := as_W1.out; have := sz_W1.out; have := as_W2.out; have := sz_W2.out; have := as_W3.out; have := sz_W3.out; have := sz_w4.out; omega)
  have at1_W5 : (((w4.setCell ⟨w.heap.size, 0, none⟩ (.slice a3 n c3)).setCell ⟨w.heap.size, 1, none⟩ (.int .i64 T)).setCell ⟨w.heap.size, 2, none⟩ (.int .i64 N)).cell? ⟨w.heap.size + 1, 1, none⟩ = some (.int .i64 ad.H.toInt) := cell_set1 (cell_set1 (cell_set1 (at1_w4) (by have := as_W1.out; have := sz_W1.out; have := as_W2.out; have := sz_W2.out; have := as_W3.out; have := sz_W3.out; have := sz_w4.out; omega)) (by have := as_W1.out; have := sz_W1.out; have := as_W2.out; have := sz_W2.out; have := as_W3.out; have := sz_W3.out; have := sz_w4.out; omega)) (by have := as_W1.out; have := sz_W1.out; have := as_W2.out; have := sz_W2.out; have := as_W3.out; have := sz_W3.out; have := sz_w4.out; omega)
  have at2_W5 : (((w4.setCell ⟨w.heap.size, 0, none⟩ (.slice a3 n c3)).setCell ⟨w.heap.size, 1, none⟩ (.int .i64 T)).setCell ⟨w.heap.size, 2, none⟩ (.int .i64 N)).cell? ⟨w.heap.size + 1, 2, none⟩ = some (.int .i64 ad.L.toInt) := cell_set1 (cell_set1 (cell_set1 (at2_w4) (by have := as_W1.out; have := sz_W1.out; have := as_W2.out; have := sz_W2.out; have := as_W3.out; have := sz_W3.out; have := sz_w4.out; omega)) (by have := as_W1.out; have := sz_W1.out; have := as_W2.out; have := sz_W2.out; have := as_W3.out; have := sz_W3.out; have := sz_w4.out; omega)) (by have := as_W1.out; have := sz_W1.out; have := as_W2.out; have := sz_W2.out; have := as_W3.out; have := sz_W3.out; have := sz_w4.out; omega)
  have atF_W5 : ∀ o, (((w4.setCell ⟨w.heap.size, 0, none⟩ (.slice a3 n c3)).setCell ⟨w.heap.size, 1, none⟩ (.int .i64 T)).setCell ⟨w.heap.size, 2, none⟩ (.int .i64 N)).frozen? ⟨w.heap.size + 1, o, none⟩ = false := fun o => frz_set1 (frz_set1 (frz_set1 ((atF_w4 o))))
  have atL_W5 : w.heap.size + 1 < (((w4.setCell ⟨w.heap.size, 0, none⟩ (.slice a3 n c3)).setCell ⟨w.heap.size, 1, none⟩ (.int .i64 T)).setCell ⟨w.heap.size, 2, none⟩ (.int .i64 N)).heap.size := by simpa using atL_w4
  have rs0_W5 : (((w4.setCell ⟨w.heap.size, 0, none⟩ (.slice a3 n c3)).setCell ⟨w.heap.size, 1, none⟩ (.int .i64 T)).setCell ⟨w.heap.size, 2, none⟩ (.int .i64 N)).cell? ⟨w.heap.size + 1 + 1, 0, none⟩ = some (.slice none 0 0) := cell_set1 (cell_set1 (cell_set1 (rs0_w4) (by have := as_W1.out; have := sz_W1.out; have := as_W2.out; have := sz_W2.out; have := as_W3.out; have := sz_W3.out; have := sz_w4.out; omega)) (by have := as_W1.out; have := sz_W1.out; have := as_W2.out; have := sz_W2.out; have := as_W3.out; have := sz_W3.out; have := sz_w4.out; omega)) (by have := as_W1.out; have := sz_W1.out; have := as_W2.out; have := sz_W2.out; have := as_W3.out; have := sz_W3.out; have := sz_w4.out; omega)
  have rs1_W5 : (((w4.setCell ⟨w.heap.size, 0, none⟩ (.slice a3 n c3)).setCell ⟨w.heap.size, 1, none⟩ (.int .i64 T)).setCell ⟨w.heap.size, 2, none⟩ (.int .i64 N)).cell? ⟨w.heap.size + 1 + 1, 1, none⟩ = some (.int .i64 0) := cell_set1 (cell_set1 (cell_set1 (rs1_w4) (by have := as_W1.out; have := sz_W1.out; have := as_W2.out; have := sz_W2.out; have := as_W3.out; have := sz_W3.out; have := sz_w4.out; omega)) (by have := as_W1.out; have := sz_W1.out; have := as_W2.out; have := sz_W2.out; have := as_W3.out; have := sz_W3.out; have := sz_w4.out; omega)) (by have := as_W1.out; have := sz_W1.out; have := as_W2.out; have := sz_W2.out; have := as_W3.out; have := sz_W3.out; have := sz_w4.out; omega)
  have rs2_W5 : (((w4.setCell ⟨w.heap.size, 0, none⟩ (.slice a3 n c3)).setCell ⟨w.heap.size, 1, none⟩ (.int .i64 T)).setCell ⟨w.heap.size, 2, none⟩ (.int .i64 N)).cell? ⟨w.heap.size + 1 + 1, 2, none⟩ = some (.int .i64 0) := cell_set1 (cell_set1 (cell_set1 (rs2_w4) (by have := as_W1.out; have := sz_W1.out; have := as_W2.out; have := sz_W2.out; have := as_W3.out; have := sz_W3.out; have := sz_w4.out; omega)) (by have := as_W1.out; have := sz_W1.out; have := as_W2.out; have := sz_W2.out; have := as_W3.out; have := sz_W3.out; have := sz_w4.out; omega)) (by have := as_W1.out; have := sz_W1.out; have := as_W2.out; have := sz_W2.out; have := as_W3.out; have := sz_W3.out; have := sz_w4.out; omega)
  have rsF_W5 : ∀ o, (((w4.setCell ⟨w.heap.size, 0, none⟩ (.slice a3 n c3)).setCell ⟨w.heap.size, 1, none⟩ (.int .i64 T)).setCell ⟨w.heap.size, 2, none⟩ (.int .i64 N)).frozen? ⟨w.heap.size + 1 + 1, o, none⟩ = false := fun o => frz_set1 (frz_set1 (frz_set1 ((rsF_w4 o))))
  have rsL_W5 : w.heap.size + 1 + 1 < (((w4.setCell ⟨w.heap.size, 0, none⟩ (.slice a3 n c3)).setCell ⟨w.heap.size, 1, none⟩ (.int .i64 T)).setCell ⟨w.heap.size, 2, none⟩ (.int .i64 N)).heap.size := by simpa using rsL_w4
  have oL_W5 : Hid (OwnG KLs 35 (((w4.setCell ⟨w.heap.size, 0, none⟩ (.slice a3 n c3)).setCell ⟨w.heap.size, 1, none⟩ (.int .i64 T)).setCell ⟨w.heap.size, 2, none⟩ (.int .i64 N)) (W3.heap.size) (.slice a3 n c3) (ls)) := hidP (OwnG.grown (OwnG.grown (OwnG.grown (oL_w4.out) (grown_cellG _ _ _ _) (OwnG.ne_of oL_w4.out (by have := as_W1.out; have := sz_W1.out; have := as_W2.out; have := sz_W2.out; have := as_W3.out; have := sz_W3.out; have := sz_w4.out; omega))) (grown_cellG _ _ _ _) (OwnG.ne_of oL_w4.out (by have := as_W1.out; have := sz_W1.out; have := as_W2.out; have := sz_W2.out; have := as_W3.out; have := sz_W3.out; have := sz_w4.out; omega))) (grown_cellG _ _ _ _) (OwnG.ne_of oL_w4.out (by have := as_W1.out; have := sz_W1.out; have := as_W2.out; have := sz_W2.out; have := as_W3.out; have := sz_W3.out; have := sz_w4.out; omega)))
  have acc_W5 : Hid (Below w.heap.size w (((w4.setCell ⟨w.heap.size, 0, none⟩ (.slice a3 n c3)).setCell ⟨w.heap.size, 1, none⟩ (.int .i64 T)).setCell ⟨w.heap.size, 2, none⟩ (.int .i64 N))) := hidP (Below.setCell (Below.setCell (Below.setCell (acc_w4.out) (by have := as_W1.out; have := sz_W1.out; have := as_W2.out; have := sz_W2.out; have := as_W3.out; have := sz_W3.out; have := sz_w4.out; try dsimp only; omega) _) (by have := as_W1.out; have := sz_W1.out; have := as_W2.out; have := sz_W2.out; have := as_W3.out; have := sz_W3.out; have := sz_w4.out; try dsimp only; omega) _) (by have := as_W1.out; have := sz_W1.out; have := as_W2.out; have := sz_W2.out; have := as_W3.out; have := sz_W3.out; have := sz_w4.out; try dsimp only; omega) _)
  have sz_W5 : Hid ((((w4.setCell ⟨w.heap.size, 0, none⟩ (.slice a3 n c3)).setCell ⟨w.heap.size, 1, none⟩ (.int .i64 T)).setCell ⟨w.heap.size, 2, none⟩ (.int .i64 N)).heap.size = w4.heap.size) := hidP (by simp)
  generalize ((w4.setCell ⟨w.heap.size, 0, none⟩ (.slice a3 n c3)).setCell ⟨w.heap.size, 1, none⟩ (.int .i64 T)).setCell ⟨w.heap.size, 2, none⟩ (.int .i64 N) = W5 at *
  clear bk0_w4 bk1_w4 bk2_w4 bkF_w4 bkL_w4 at0_w4 at1_w4 at2_w4 atF_w4 atL_w4 rs0_w4 rs1_w4 rs2_w4 rsF_w4 rsL_w4 oL_w4 acc_w4
  refine (HPh.out _ a3 c3 oL_W5.out.row).mono ?_
  rintro e w6 ⟨rfl, hb6⟩
  have bk0_w6 := (hb6.cell bkL_W5).trans bk0_W5
  have bk1_w6 := (hb6.cell bkL_W5).trans bk1_W5
  have bk2_w6 := (hb6.cell bkL_W5).trans bk2_W5
  have bkF_w6 : ∀ o, w6.frozen? ⟨w.heap.size, o, none⟩ = false := fun o => (hb6.frozen bkL_W5).trans (bkF_W5 o)
  have bkL_w6 : w.heap.size < w6.heap.size := Nat.lt_of_lt_of_le bkL_W5 hb6.size
  have at0_w6 := (hb6.cell atL_W5).trans at0_W5
  have at1_w6 := (hb6.cell atL_W5).trans at1_W5
  have at2_w6 := (hb6.cell atL_W5).trans at2_W5
  have atF_w6 : ∀ o, w6.frozen? ⟨w.heap.size + 1, o, none⟩ = false := fun o => (hb6.frozen atL_W5).trans (atF_W5 o)
  have atL_w6 : w.heap.size + 1 < w6.heap.size := Nat.lt_of_lt_of_le atL_W5 hb6.size
  have rs0_w6 := (hb6.cell rsL_W5).trans rs0_W5
  have rs1_w6 := (hb6.cell rsL_W5).trans rs1_W5
  have rs2_w6 := (hb6.cell rsL_W5).trans rs2_W5
  have rsF_w6 : ∀ o, w6.frozen? ⟨w.heap.size + 1 + 1, o, none⟩ = false := fun o => (hb6.frozen rsL_W5).trans (rsF_W5 o)
  have rsL_w6 : w.heap.size + 1 + 1 < w6.heap.size := Nat.lt_of_lt_of_le rsL_W5 hb6.size
  have oL_w6 := hidP (OwnG.later oL_W5.out hb6)
  have acc_w6 := hidP (acc_W5.out.trans (hb6.mono acc_W5.out.size))
  have sz_w6 : Hid (W5.heap.size ≤ w6.heap.size) := hidP hb6.size
  clear hb6 bk0_W5 bk1_W5 bk2_W5 bkF_W5 bkL_W5 at0_W5 at1_W5 at2_W5 atF_W5 atL_W5 rs0_W5 rs1_W5 rs2_W5 rsF_W5 rsL_W5 oL_W5 acc_W5
  go_wp2_with fail
  have hBW : w.heap.size + 1 + 1 ≤ w6.heap.size := (by have := as_W1.out; have := sz_W1.out; have := as_W2.out; have := sz_W2.out; have := as_W3.out; have := sz_W3.out; have := sz_w4.out; have := sz_W5.out; have := sz_w6.out; omega)
  have l0 : w.heap.size < w.heap.size + 1 + 1 := by omega
  have HSx : Hid (∀ x, Below (w.heap.size + 1 + 1) w6 x → (x.cell? ⟨w.heap.size, 0, none⟩ = some (.slice a3 n c3) ∧ x.cell? ⟨w.heap.size, 1, none⟩ = some (.int .i64 T) ∧ x.cell? ⟨w.heap.size, 2, none⟩ = some (.int .i64 N) ∧ Below (w.heap.size + 1 + 1) w6 x)) := hidP fun x h =>
    ⟨(h.cell l0).trans bk0_w6, (h.cell l0).trans bk1_w6, (h.cell l0).trans bk2_w6, h⟩
  refine wp_region_held_drew (S := (fun x => x.cell? ⟨w.heap.size, 0, none⟩ = some (.slice a3 n c3) ∧ x.cell? ⟨w.heap.size, 1, none⟩ = some (.int .i64 T) ∧ x.cell? ⟨w.heap.size, 2, none⟩ = some (.int .i64 N) ∧ Below (w.heap.size + 1 + 1) w6 x)) (by kernel_rfl) ?_ (fun hHeld => ?_)
  · try dsimp only
    exact HSx.out _ (Below.refl _ _).drew
  refine tkA 0 25 (v := ?_) rfl (by kernel_rfl) (fun _ _ _ h => h) (by rfl) ?_ (by assumption) ?_; rotate_left; · (intro w hSw; (try dsimp only at hSw); go_simp; try with_reducible rfl)
  simp only [Act.put, List.setIfInBounds_toArray, List.set_cons_zero, List.set_cons_succ]
  refine tkA 1 26 (v := ?_) rfl (by kernel_rfl) (fun _ _ _ h => h) (by rfl) ?_ (by assumption) ?_; rotate_left; · (intro w hSw; (try dsimp only at hSw); go_simp; try with_reducible rfl)
  simp only [Act.put, List.setIfInBounds_toArray, List.set_cons_zero, List.set_cons_succ]
  refine wpAnyH_ready (rs := [2]) (by kernel_rfl) (by simp) ?_
  refine AllReadyH.cons rfl (fun K hK => ?_) AllReadyH.nil
  go_simp
  go_wp2_with (first | (go_at_call 26; refine (leaseCode_any x _ (HG.out.later (acc_w6.out.trans (Below.mono (Below.refl _ _).drew (by have := acc_w6.out.size; omega))))).mono ?_; rintro e w7 ⟨rfl, hb7⟩; have b7 := (hHeld.2.2.2).trans (hb7.mono (Nat.le_trans hBW (hHeld.2.2.2).size))))
  refine hK.out _ _ ?_ (fun hHeld => ?_)
  · try dsimp only
    exact HSx.out _ b7
  clear hK K
  have r0 := (hb7.cell (show w.heap.size + 1 + 1 < w6.heap.size from rsL_w6)).trans rs0_w6
  have r1 := (hb7.cell (show w.heap.size + 1 + 1 < w6.heap.size from rsL_w6)).trans rs1_w6
  have r2 := (hb7.cell (show w.heap.size + 1 + 1 < w6.heap.size from rsL_w6)).trans rs2_w6
  have rF : ∀ o, w7.frozen? ⟨w.heap.size + 1 + 1, o, none⟩ = false := fun o => (hb7.frozen (show w.heap.size + 1 + 1 < w6.heap.size from rsL_w6)).trans (rsF_w6 o)
  refine wpAnyH_ready (rs := [3]) (by kernel_rfl) (by simp) ?_
  refine AllReadyH.cons rfl (fun K hK => ?_) AllReadyH.nil
  go_simp
  refine hK.out _ _ ?_ (fun hHeld => ?_)
  · try dsimp only
    refine HSx.out _ ?_
    repeat (with_reducible refine Below.setCell ?_ ?_ _; rotate_left; (focus (first | (simp; done) | (simp; omega))))
    exact b7
  clear hK K
  refine tkA 4 9 (v := ?_) rfl (by kernel_rfl) (fun _ _ _ h => h) (by rfl) ?_ (by assumption) ?_; rotate_left; · (intro w hSw; (try dsimp only at hSw); go_simp; try with_reducible rfl)
  simp only [Act.put, List.setIfInBounds_toArray]
  refine tkA 5 10 (v := ?_) rfl (by kernel_rfl) (fun _ _ _ h => h) (by rfl) ?_ (by assumption) ?_; rotate_left; · (intro w hSw; (try dsimp only at hSw); go_simp; try with_reducible rfl)
  simp only [Act.put, List.setIfInBounds_toArray]
  have HE := hidP (hHeld.2.2.2)
  refine wpAnyH_done (by kernel_rfl) ?_ _
  clear hHeld
  have b7' : Below w6.heap.size w6 w7 := by have := hb7; exact (Below.refl _ _).drew.trans this
  clear HE HSx b7 hb7
  have bk0_w7 := (b7'.cell bkL_w6).trans bk0_w6
  have bk1_w7 := (b7'.cell bkL_w6).trans bk1_w6
  have bk2_w7 := (b7'.cell bkL_w6).trans bk2_w6
  have bkF_w7 : ∀ o, w7.frozen? ⟨w.heap.size, o, none⟩ = false := fun o => (b7'.frozen bkL_w6).trans (bkF_w6 o)
  have bkL_w7 : w.heap.size < w7.heap.size := Nat.lt_of_lt_of_le bkL_w6 b7'.size
  have at0_w7 := (b7'.cell atL_w6).trans at0_w6
  have at1_w7 := (b7'.cell atL_w6).trans at1_w6
  have at2_w7 := (b7'.cell atL_w6).trans at2_w6
  have atF_w7 : ∀ o, w7.frozen? ⟨w.heap.size + 1, o, none⟩ = false := fun o => (b7'.frozen atL_w6).trans (atF_w6 o)
  have atL_w7 : w.heap.size + 1 < w7.heap.size := Nat.lt_of_lt_of_le atL_w6 b7'.size
  have rs0_w7 := (b7'.cell rsL_w6).trans rs0_w6
  have rs1_w7 := (b7'.cell rsL_w6).trans rs1_w6
  have rs2_w7 := (b7'.cell rsL_w6).trans rs2_w6
  have rsF_w7 : ∀ o, w7.frozen? ⟨w.heap.size + 1 + 1, o, none⟩ = false := fun o => (b7'.frozen rsL_w6).trans (rsF_w6 o)
  have rsL_w7 : w.heap.size + 1 + 1 < w7.heap.size := Nat.lt_of_lt_of_le rsL_w6 b7'.size
  have oL_w7 := hidP (OwnG.later oL_w6.out b7')
  have acc_w7 := hidP (acc_w6.out.trans (b7'.mono acc_w6.out.size))
  have sz_w7 : Hid (w6.heap.size ≤ w7.heap.size) := hidP b7'.size
  clear b7' bk0_w6 bk1_w6 bk2_w6 bkF_w6 bkL_w6 at0_w6 at1_w6 at2_w6 atF_w6 atL_w6 rs0_w6 rs1_w6 rs2_w6 rsF_w6 rsL_w6 oL_w6 acc_w6
  go_wp2_with fail
  refine bodyPost_ret (v := .tuple #[.agg #[.slice a3 n c3, .int .i64 T, .int .i64 N], .int .i64 0, .int .i64 x]) (by simp [results, Tryz.results7, go_sem, rs0_w7, rs1_w7, rs2_w7]) rfl ⟨_, _, rfl, ?_, ?_⟩
  · refine OwnG.mono (B := W3.heap.size) ?_ (by have := as_W1.out; have := sz_W1.out; have := as_W2.out; have := sz_W2.out; have := as_W3.out; have := sz_W3.out; have := sz_w4.out; have := sz_W5.out; have := sz_w6.out; have := sz_w7.out; omega)
    iterate 3 (with_reducible refine OwnG.grown ?_ (grown_cellG _ _ _ _) ?_; rotate_left; (focus (exact OwnG.ne_of oL_w7.out (by have := as_W1.out; have := sz_W1.out; have := as_W2.out; have := sz_W2.out; have := as_W3.out; have := sz_W3.out; have := sz_w4.out; have := sz_W5.out; have := sz_w6.out; have := sz_w7.out; omega))))
    with_reducible exact oL_w7.out
  · repeat (with_reducible refine Below.setCell ?_ ?_ _; rotate_left; (focus (first | (simp; done) | (simp; omega))))
    exact acc_w7.out

end Go.Proofs.YtddnofonodgneaaGreatDoor
