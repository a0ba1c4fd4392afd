/-
  What granted_card needs, part 6.
-/
import Derived.Test.YtddnofonodgneaaGreatDoorZG5
import Derived.Deep.RegionHeld3
namespace Go.Proofs.YtddnofonodgneaaGreatDoor
open Go.RowKit

/-- A book in block e, the result's box r; what lies behind r belongs to the walk. -/
structure BnI (c r e : Nat) (a : Option Addr) (len cap : Nat) (W X : World) (b : Option Addr) (n d : Nat) (K N : Int) (ls : List Ls) : Prop where
  cur : Cur X c a len cap
  kp : Kp c W X
  hc : c < W.heap.size
  hr : W.heap.size ≤ r
  he : r + 1 ≤ e
  hl : e < X.heap.size
  r0 : X.cell? ⟨r, 0, none⟩ = some (.slice none 0 0)
  r1 : X.cell? ⟨r, 1, none⟩ = some (.int .i64 0)
  r2 : X.cell? ⟨r, 2, none⟩ = some (.int .i64 0)
  rF : ∀ o, X.frozen? ⟨r, o, none⟩ = false
  d0 : X.cell? ⟨e, 0, none⟩ = some (.slice b n d)
  d1 : X.cell? ⟨e, 1, none⟩ = some (.int .i64 K)
  d2 : X.cell? ⟨e, 2, none⟩ = some (.int .i64 N)
  dF : ∀ o, X.frozen? ⟨e, o, none⟩ = false
  own : OwnG KLs 35 X (r + 1) (.slice b n d) ls
  ne : ∀ k, (Value.slice b n d).ownBlock = some k → k ≠ e
theorem Kp.newer {c : Nat} {W X Y : World} (h : Kp c W X) (hc : c < W.heap.size) (k : Below W.heap.size X Y) : Kp c W Y :=
  ⟨h.low.trans (k.mono (Nat.le_of_lt hc)), Nat.le_trans h.big k.size, fun b o hb hbc => (k.cell (by exact hb)).trans (h.cel b o hb hbc), fun b o hb hbc => (k.frozen (by exact hb)).trans (h.frz b o hb hbc), fun b hb hbc => (k.block b hb).trans (h.blk b hb hbc)⟩
theorem BnI.keep {c r e : Nat} {a : Option Addr} {len cap : Nat} {W X : World} {b : Option Addr} {n d : Nat} {K N : Int} {ls : List Ls} {Y : World} (h : BnI c r e a len cap W X b n d K N ls) (hC : Cur Y c a len cap) (k : Kp c X Y) : BnI c r e a len cap W Y b n d K N ls := by
  have h1 := h.hc; have h2 := h.hr; have h4 := h.he; have h5 := h.hl
  exact ⟨hC, h.kp.trans k, h.hc, h.hr, h.he, Nat.lt_of_lt_of_le h5 k.big, (k.cel _ _ (by omega) (by omega)).trans h.r0, (k.cel _ _ (by omega) (by omega)).trans h.r1, (k.cel _ _ (by omega) (by omega)).trans h.r2, fun o => (k.frz _ _ (by omega) (by omega)).trans (h.rF o), (k.cel _ _ (by omega) (by omega)).trans h.d0, (k.cel _ _ (by omega) (by omega)).trans h.d1, (k.cel _ _ (by omega) (by omega)).trans h.d2, fun o => (k.frz _ _ (by omega) (by omega)).trans (h.dF o), h.own.kp k (by omega), h.ne⟩
theorem BnI.below {c r e : Nat} {a : Option Addr} {len cap : Nat} {W X : World} {b : Option Addr} {n d : Nat} {K N : Int} {ls : List Ls} {Y : World} (h : BnI c r e a len cap W X b n d K N ls) (k : Below X.heap.size X Y) : BnI c r e a len cap W Y b n d K N ls :=
  h.keep (h.cur.grew k) (Kp.of_below h.cur.lt k)
theorem BnI.sz {c r e : Nat} {a : Option Addr} {len cap : Nat} {W X : World} {b : Option Addr} {n d : Nat} {K N : Int} {ls : List Ls} (h : BnI c r e a len cap W X b n d K N ls) : r + 1 ≤ X.heap.size := by have := h.he; have := h.hl; omega
/-- The book is made: behind the result's box. -/
theorem BnI.mk0 {c r : Nat} {a : Option Addr} {len cap : Nat} {W X : World} {b : Option Addr} {n d : Nat} {ls : List Ls} (K N : Int) (hC : Cur X c a len cap) (hk : Kp c W X) (hc : c < W.heap.size) (hr : W.heap.size ≤ r) (hx : r + 1 ≤ X.heap.size)
    (r0 : X.cell? ⟨r, 0, none⟩ = some (.slice none 0 0)) (r1 : X.cell? ⟨r, 1, none⟩ = some (.int .i64 0)) (r2 : X.cell? ⟨r, 2, none⟩ = some (.int .i64 0)) (rF : ∀ o, X.frozen? ⟨r, o, none⟩ = false)
    (own : OwnG KLs 35 X (r + 1) (.slice b n d) ls) : BnI c r X.heap.size a len cap W (X.alloc (.cells #[.slice b n d, .int .i64 K, .int .i64 N] 26)) b n d K N ls := by
  have zb := alloc_below X (.cells #[.slice b n d, .int .i64 K, .int .i64 N] 26)
  exact ⟨hC.grew zb, hk.trans (Kp.of_below hC.lt zb), hc, hr, hx, alloc_lt _ _, (zb.cell (by dsimp only; omega)).trans r0, (zb.cell (by dsimp only; omega)).trans r1, (zb.cell (by dsimp only; omega)).trans r2, fun o => (zb.frozen (by dsimp only; omega)).trans (rF o), by simp [go_sem], by simp [go_sem], by simp [go_sem], fun o => by simp [go_sem], own.later zb, fun k hk => Nat.ne_of_lt (OwnG.lt own k hk).2⟩
theorem BnI.putK {c r e : Nat} {a : Option Addr} {len cap : Nat} {W X : World} {b : Option Addr} {n d : Nat} {K N : Int} {ls : List Ls} (h : BnI c r e a len cap W X b n d K N ls) (x : Int) : BnI c r e a len cap W (X.setCell ⟨e, 1, none⟩ (.int .i64 x)) b n d x N ls := by
  have h1 := h.hc; have h2 := h.hr; have h4 := h.he; have h5 := h.hl
  exact ⟨h.cur.far (by omega) _, h.kp.setNew h.hc (by omega) _, h.hc, h.hr, h.he, by simpa using h.hl, cell_set1 h.r0 (by omega), cell_set1 h.r1 (by omega), cell_set1 h.r2 (by omega), fun o => frz_set1 (h.rF o), by simp [go_sem, h.d0], by simp [go_sem, h.d1], by simp [go_sem, h.d2], fun o => frz_set1 (h.dF o), OwnG.grown h.own (grown_cellG _ _ _ _) (fun k hk q => h.ne k hk (by simpa using q.symm)), h.ne⟩
theorem BnI.putN {c r e : Nat} {a : Option Addr} {len cap : Nat} {W X : World} {b : Option Addr} {n d : Nat} {K N : Int} {ls : List Ls} (h : BnI c r e a len cap W X b n d K N ls) (x : Int) : BnI c r e a len cap W (X.setCell ⟨e, 2, none⟩ (.int .i64 x)) b n d K x ls := by
  have h1 := h.hc; have h2 := h.hr; have h4 := h.he; have h5 := h.hl
  exact ⟨h.cur.far (by omega) _, h.kp.setNew h.hc (by omega) _, h.hc, h.hr, h.he, by simpa using h.hl, cell_set1 h.r0 (by omega), cell_set1 h.r1 (by omega), cell_set1 h.r2 (by omega), fun o => frz_set1 (h.rF o), by simp [go_sem, h.d0], by simp [go_sem, h.d1], by simp [go_sem, h.d2], fun o => frz_set1 (h.dF o), OwnG.grown h.own (grown_cellG _ _ _ _) (fun k hk q => h.ne k hk (by simpa using q.symm)), h.ne⟩
theorem BnI.fin {c r e : Nat} {a : Option Addr} {len cap : Nat} {W X : World} {b : Option Addr} {n d : Nat} {K N : Int} {ls : List Ls} (h : BnI c r e a len cap W X b n d K N ls) (u v x : Value) :
    Cur (((X.setCell ⟨r, 0, none⟩ u).setCell ⟨r, 1, none⟩ v).setCell ⟨r, 2, none⟩ x) c a len cap ∧ Kp c W (((X.setCell ⟨r, 0, none⟩ u).setCell ⟨r, 1, none⟩ v).setCell ⟨r, 2, none⟩ x) ∧ OwnG KLs 35 (((X.setCell ⟨r, 0, none⟩ u).setCell ⟨r, 1, none⟩ v).setCell ⟨r, 2, none⟩ x) W.heap.size (.slice b n d) ls := by
  have h1 := h.hc; have h2 := h.hr; have h4 := h.he; have h5 := h.hl
  exact ⟨((h.cur.far (by omega) _).far (by omega) _).far (by omega) _, ((h.kp.setNew h.hc (by omega) _).setNew h.hc (by omega) _).setNew h.hc (by omega) _, OwnG.mono (OwnG.grown (OwnG.grown (OwnG.grown h.own (grown_cellG _ _ _ _) (OwnG.ne_of h.own (by omega))) (grown_cellG _ _ _ _) (OwnG.ne_of h.own (by omega))) (grown_cellG _ _ _ _) (OwnG.ne_of h.own (by omega))) (by omega)⟩
/-- Another book comes into block e. -/
theorem BnI.put {c r e : Nat} {a : Option Addr} {len cap : Nat} {W X : World} {b : Option Addr} {n d : Nat} {K N : Int} {ls : List Ls} (h : BnI c r e a len cap W X b n d K N ls) {b' : Option Addr} {n' d' : Nat} {ls' : List Ls} (K' N' : Int) (ho : OwnG KLs 35 X (r + 1) (.slice b' n' d') ls') (hne : ∀ k, (Value.slice b' n' d').ownBlock = some k → k ≠ e) :
    BnI c r e a len cap W (((X.setCell ⟨e, 0, none⟩ (.slice b' n' d')).setCell ⟨e, 1, none⟩ (.int .i64 K')).setCell ⟨e, 2, none⟩ (.int .i64 N')) b' n' d' K' N' ls' := by
  have h1 := h.hc; have h2 := h.hr; have h4 := h.he; have h5 := h.hl
  exact ⟨((h.cur.far (by omega) _).far (by omega) _).far (by omega) _, ((h.kp.setNew h.hc (by omega) _).setNew h.hc (by omega) _).setNew h.hc (by omega) _, h.hc, h.hr, h.he, by simpa using h.hl, cell_set1 (cell_set1 (cell_set1 h.r0 (by omega)) (by omega)) (by omega), cell_set1 (cell_set1 (cell_set1 h.r1 (by omega)) (by omega)) (by omega), cell_set1 (cell_set1 (cell_set1 h.r2 (by omega)) (by omega)) (by omega), fun o => frz_set1 (frz_set1 (frz_set1 (h.rF o))), by simp [go_sem, h.d0], by simp [go_sem, h.d1], by simp [go_sem, h.d2], fun o => frz_set1 (frz_set1 (frz_set1 (h.dF o))), OwnG.grown (OwnG.grown (OwnG.grown ho (grown_cellG _ _ _ _) (fun k hk q => hne k hk (by simpa using q.symm))) (grown_cellG _ _ _ _) (fun k hk q => hne k hk (by simpa using q.symm))) (grown_cellG _ _ _ _) (fun k hk q => hne k hk (by simpa using q.symm)), hne⟩
/-- The box gets another row, an append's. -/
theorem BnI.app {c r e : Nat} {a : Option Addr} {len cap : Nat} {W X : World} {b : Option Addr} {n d : Nat} {K N : Int} {ls : List Ls} (h : BnI c r e a len cap W X b n d K N ls) {X1 Y : World} (hX : Below X.heap.size X X1) {b' : Option Addr} {n' d' : Nat} {ls' : List Ls} (ho : OwnG KLs 35 Y (r + 1) (.slice b' n' d') ls') (hg : X1.grownBy Y (Value.slice b n d).ownBlock) (ht : b' = b ∨ b' = some ⟨X1.heap.size, 0, none⟩) :
    BnI c r e a len cap W (Y.setCell ⟨e, 0, none⟩ (.slice b' n' d')) b' n' d' K N ls' ∧ Y.cell? ⟨e, 0, none⟩ = some (.slice b n d) ∧ Y.frozen? ⟨e, 0, none⟩ = false := by
  have h1 := h.hc; have h2 := h.hr; have h4 := h.he; have h5 := h.hl; have h3 := hX.size
  have h' := h.below hX
  have hne : ∀ k, (Value.slice b' n' d').ownBlock = some k → k ≠ e := fun k hk he => by
    rcases ht with ht | ht
    · rw [ht] at hk; exact h.ne k ((ob_len b n d n' d').trans hk) he
    · rw [ht, ob_some, Option.some.injEq] at hk; omega
  have hb : Below (r + 1) X1 Y := (Below.refl _ _).grown hg h'.sz (fun k hk => (OwnG.lt h.own k hk).1)
  have c0 := cell_grown hg h'.d0 h.ne
  have c1 := cell_grown hg h'.d1 h.ne
  have c2 := cell_grown hg h'.d2 h.ne
  have cF : ∀ o, Y.frozen? ⟨e, o, none⟩ = false := fun o => frz_grown hg h'.hl (h'.dF o) h.ne
  have hs := hg.size
  have h6 := h'.hl
  exact ⟨⟨(h'.cur.keep (hb.mono (by omega))).far (by omega) _, (h'.kp.newer h.hc (hb.mono (by omega))).setNew h.hc (by omega) _, h.hc, h.hr, h.he, by simp; omega, cell_set1 ((hb.cell (by dsimp only; omega)).trans h'.r0) (by omega), cell_set1 ((hb.cell (by dsimp only; omega)).trans h'.r1) (by omega), cell_set1 ((hb.cell (by dsimp only; omega)).trans h'.r2) (by omega), fun o => frz_set1 ((hb.frozen (by dsimp only; omega)).trans (h'.rF o)), by simp [go_sem, c0], by simp [go_sem, c1], by simp [go_sem, c2], fun o => frz_set1 (cF o), OwnG.grown ho (grown_cellG _ _ _ _) (fun k hk q => hne k hk (by simpa using q.symm)), hne⟩, c0, cF 0⟩
theorem own5 {t : TypeId} {w : World} {B g n cap : Nat} {ls : List Ls} (h : OwnG KLs t w B (.slice (some ⟨g, 0, none⟩) n cap) ls) (q : Ls) (z : Int) (hq : ls[0]? = some q) :
    OwnG KLs t (w.setCell ⟨g, 5, none⟩ (.int .i64 z)) B (.slice (some ⟨g, 0, none⟩) n cap) (ls.set 0 ⟨q.a, q.t, q.k, z⟩) := by
  have hn := h.caps.1
  subst hn
  have := puts_own [.int .i64 z] w _ 5 h
  cases ls with
  | nil => simp at hq
  | cons x t =>
    simp at hq
    subst hq
    unfold OwnG
    rw [List.length_set]
    exact this
/-- The first lease's end is turned. -/
theorem BnI.putL {c r e g : Nat} {a : Option Addr} {len cap : Nat} {W X : World} {n d : Nat} {K N : Int} {ls : List Ls} (h : BnI c r e a len cap W X (some ⟨g, 0, none⟩) n d K N ls) (q : Ls) (z : Int) (hq : ls[0]? = some q) :
    BnI c r e a len cap W (X.setCell ⟨g, 5, none⟩ (.int .i64 z)) (some ⟨g, 0, none⟩) n d K N (ls.set 0 ⟨q.a, q.t, q.k, z⟩) := by
  have h1 := h.hc; have h2 := h.hr; have h4 := h.he; have h5 := h.hl
  have h3 := (OwnG.lt h.own g rfl).1
  have h6 : g ≠ e := h.ne g rfl
  exact ⟨h.cur.far (by omega) _, h.kp.setNew h.hc (by omega) _, h.hc, h.hr, h.he, by simpa using h.hl, cell_set1 h.r0 (by omega), cell_set1 h.r1 (by omega), cell_set1 h.r2 (by omega), fun o => frz_set1 (h.rF o), cell_set1 h.d0 (by omega), cell_set1 h.d1 (by omega), cell_set1 h.d2 (by omega), fun o => frz_set1 (h.dF o), own5 h.own q z hq, h.ne⟩

theorem cells3 (w : World) (t : TypeId) (x0 x1 x2 : Int) : ∀ j, j < 3 → ∃ z, (fun _ : Int => True) z ∧ (w.alloc (.cells #[.int .i64 x0, .int .i64 x1, .int .i64 x2] t)).cell? ⟨w.heap.size, j, none⟩ = some (.int .i64 z) := fun j hj => by
  match j, hj with
  | 0, _ => exact ⟨x0, trivial, by simp [go_sem]⟩
  | 1, _ => exact ⟨x1, trivial, by simp [go_sem]⟩
  | 2, _ => exact ⟨x2, trivial, by simp [go_sem]⟩
theorem cells4 (w : World) (t : TypeId) (x0 x1 x2 x3 : Int) : ∀ j, j < 4 → ∃ z, (fun _ : Int => True) z ∧ (w.alloc (.cells #[.int .i64 x0, .int .i64 x1, .int .i64 x2, .int .i64 x3] t)).cell? ⟨w.heap.size, j, none⟩ = some (.int .i64 z) := fun j hj => by
  match j, hj with
  | 0, _ => exact ⟨x0, trivial, by simp [go_sem]⟩
  | 1, _ => exact ⟨x1, trivial, by simp [go_sem]⟩
  | 2, _ => exact ⟨x2, trivial, by simp [go_sem]⟩
  | 3, _ => exact ⟨x3, trivial, by simp [go_sem]⟩
theorem sml_app {ls : List Ls} {q : Ls} {j : Nat} (h : Sml ls) (hq : ls[j]? = some q) : Sml (ls ++ [q]) := fun x hx => by
  rcases List.mem_append.1 hx with hx | hx
  · exact h x hx
  · rw [List.mem_singleton] at hx; subst hx; exact h x (List.mem_of_getElem? hq)
theorem sml_set {ls : List Ls} {q : Ls} {z : Int} (h : Sml ls) (hq : ls[0]? = some q) : Sml (ls.set 0 ⟨q.a, q.t, q.k, z⟩) := fun x hx => by
  rcases List.mem_or_eq_of_mem_set hx with hx | hx
  · exact h x hx
  · subst hx; exact h q (List.mem_of_getElem? hq)
set_option maxRecDepth 10000 in
set_option maxHeartbeats 8000000 in
theorem l6Bend_any (c : Nat) (a : Option Addr) (len cap : Nat) (b : Option Addr) (n d : Nat) (K N : Int) (ls : List Ls) (W : World) (hC : Cur W c a len cap) (hn : n = ls.length) (hB : RowG KLs W b ls) (hbd : b = none → d = 0) (h80 : n ≤ 80) (hs : Sml ls) :
    Calls Tryz.prog 41 #[.pointer (some ⟨c, 0, none⟩), .agg #[.slice b n d, .int .i64 K, .int .i64 N]] W fun e W' => ∃ b' n' d' K' N' ls', e = .returned (.agg #[.slice b' n' d', .int .i64 K', .int .i64 N']) ∧ n' = ls'.length ∧ n' ≤ n + 1 ∧ Sml ls' ∧ OwnG KLs 35 W' W.heap.size (.slice b' n' d') ls' ∧ Cur W' c a len cap ∧ Kp c W W' := by
  have HC := hidP hC
  have HN := hidP (And.intro hn (And.intro hbd hs))
  have hcl := hC.lt
  have HB := hidP hB
  clear hC hn hbd hs hB
  go_enter Tryz.func41, Tryz.ntmps41
  go_wp2_with fail
  have zb1 := alloc_below W (.cells #[.slice b n d, .int .i64 K, .int .i64 N] 26)
  have zs1 : (W.alloc (.cells #[.slice b n d, .int .i64 K, .int .i64 N] 26)).heap.size = W.heap.size + 1 := by simp
  generalize W.alloc (.cells #[.slice b n d, .int .i64 K, .int .i64 N] 26) = W1 at *
  have zb2 := alloc_below W1 (.cells #[.slice none 0 0, .int .i64 0, .int .i64 0] 26)
  obtain ⟨q0, q1, q2⟩ := box3B W1 26 (.slice none 0 0) (.int .i64 0) (.int .i64 0)
  have qF := frz3 W1 26 (.slice none 0 0) (.int .i64 0) (.int .i64 0)
  have zl2 := alloc_lt W1 (.cells #[.slice none 0 0, .int .i64 0, .int .i64 0] 26)
  generalize W1.alloc (.cells #[.slice none 0 0, .int .i64 0, .int .i64 0] 26) = W2 at *
  have zz := zb1.trans (zb2.mono (by omega))
  refine (l6Copy_any b n d K N ls _ HN.out.1 (HB.out.later zz) HN.out.2.1 (by omega)).mono ?_
  rintro e w3 ⟨b1, d1, rfl, ho3, hb3⟩
  rw [zs1] at q0 q1 q2 qF zl2
  have HQ := hidP (fun K N => BnI.mk0 (r := W.heap.size + 1) (W := W) K N (HC.out.grew (zz.trans (hb3.mono zz.size))) (Kp.of_below hcl (zz.trans (hb3.mono zz.size))) hcl (by omega) (by have := hb3.size; omega) ((hb3.cell (by dsimp only; omega)).trans q0) ((hb3.cell (by dsimp only; omega)).trans q1) ((hb3.cell (by dsimp only; omega)).trans q2) (fun o => (hb3.frozen (by dsimp only; omega)).trans (qF o)) (OwnG.mono ho3 (by omega)))
  have ne1 : ¬ (w3.heap.size = W.heap.size + 1) := by have := hb3.size; omega
  have ne2 : ¬ (W.heap.size + 1 = w3.heap.size) := by omega
  clear ho3 hb3 q0 q1 q2 qF zl2 zb1 zb2 zz zs1
  go_wp2_with fail
  have HD4 := hidP (HQ.out K N)
  clear HQ
  generalize w3.alloc (.cells #[.slice b1 n d1, .int .i64 K, .int .i64 N] 26) = w4 at *
  refine (l1Below_any c a len cap 7 _ HD4.out.cur).mono ?_
  rintro e w5 ⟨⟨x, x0, x9, rfl⟩, hC5, hK5⟩
  have HD5 := hidP (HD4.out.keep hC5 hK5)
  clear hC5 hK5 x9 HD4 HC HB
  cases hx0 : (x == 0)
  · cases hx1 : (x == 1)
    · cases hx2 : (x == 2)
      · cases hx3 : (x == 3)
        · have p0 := HD5.out.d0
          have q0 := HD5.out.r0
          have p1 := HD5.out.d1
          have q1 := HD5.out.r1
          have p2 := HD5.out.d2
          have q2 := HD5.out.r2
          have qF := HD5.out.rF
          have pF := HD5.out.dF
          go_wp2_with fail
          refine bodyPost_ret (v := .agg #[.slice b1 n d1, .int .i64 K, .int .i64 N]) (by simp [results, Tryz.results41, go_sem, q0, q1, q2]) rfl ⟨b1, n, d1, K, N, ls, rfl, HN.out.1, (by omega), HN.out.2.2, (HD5.out.fin _ _ _).2.2, (HD5.out.fin _ _ _).1, (HD5.out.fin _ _ _).2.1⟩
        · by_cases hn0 : 0 < n
          · have gn : decide ((0 : Int) < (n : Int)) = true := decide_eq_true (by omega)
            obtain ⟨g, rfl⟩ := own_some HD5.out.own hn0
            have p0 := HD5.out.d0
            go_wp2_with fail
            clear p0
            have HD5d := hidP (HD5.out.below (Below.refl _ _).drew)
            refine wp_region_held_drew (S := fun _ => True) (by kernel_rfl) trivial (fun hHeld => ?_)
            refine tkA 0 43 (v := ?_) rfl (by kernel_rfl) (fun _ _ _ h => h) (by rfl) ?_ (by assumption) ?_; rotate_left; · (intro w hSw; (try dsimp only at hSw); go_simp; try with_reducible rfl)
            simp only [Act.put, List.setIfInBounds_toArray, List.set_cons_zero, List.set_cons_succ]
            refine tkA 2 45 (v := ?_) rfl (by kernel_rfl) (fun _ _ _ h => h) (by rfl) ?_ (by assumption) ?_; rotate_left; · (intro w hSw; (try dsimp only at hSw); go_simp; try with_reducible rfl)
            simp only [Act.put, List.setIfInBounds_toArray, List.set_cons_zero, List.set_cons_succ]
            refine tkA 3 46 (v := ?_) rfl (by kernel_rfl) (fun _ _ _ h => h) (by rfl) ?_ (by assumption) ?_; rotate_left; · (intro w hSw; (try dsimp only at hSw); go_simp; try with_reducible rfl)
            simp only [Act.put, List.setIfInBounds_toArray, List.set_cons_zero, List.set_cons_succ]
            refine wpAnyH_ready (rs := [1, 4]) (by kernel_rfl) (by simp) ?_
            refine AllReadyH.cons rfl (fun KK hK => ?_) (AllReadyH.cons rfl (fun KK hK => ?_) AllReadyH.nil)
            · have l0 := HD5d.out.d0
              go_simp
              clear l0
              refine hK.out _ _ trivial (fun hHeld => ?_)
              clear hK KK
              refine wpAnyH_ready (rs := [4]) (by kernel_rfl) (by simp) ?_
              refine AllReadyH.cons rfl (fun KK hK => ?_) AllReadyH.nil
              have l2 := HD5d.out.d2
              go_simp
              clear l2
              refine hK.out _ _ trivial (fun hHeld => ?_)
              clear hK KK
              refine wpAnyH_ready (rs := [5]) (by kernel_rfl) (by simp) ?_
              refine AllReadyH.cons rfl (fun KK hK => ?_) AllReadyH.nil
              go_simp
              have zb := (alloc_below w5 (.cells #[.int .i64 0, .int .i64 N, .int .i64 1000000001] 3)).drew
              have zl : w5.heap.size < (w5.alloc (.cells #[.int .i64 0, .int .i64 N, .int .i64 1000000001] 3)).drew.heap.size := alloc_lt w5 (.cells #[.int .i64 0, .int .i64 N, .int .i64 1000000001] 3)
              have zc : ∀ j, j < 3 → ∃ z, (fun _ : Int => True) z ∧ (w5.alloc (.cells #[.int .i64 0, .int .i64 N, .int .i64 1000000001] 3)).drew.cell? ⟨w5.heap.size, j, none⟩ = some (.int .i64 z) := cells3 w5 3 0 N 1000000001
              have HD6 := hidP (HD5.out.below zb)
              have hne : w5.heap.size ≠ c := by have := HD5.out.cur.lt; omega
              generalize (w5.alloc (.cells #[.int .i64 0, .int .i64 N, .int .i64 1000000001] 3)).drew = w6 at *
              refine hK.out _ _ trivial (fun hHeld => ?_)
              clear hK KK
              refine wpAnyH_ready (rs := [6]) (by kernel_rfl) (by simp) ?_
              refine AllReadyH.cons rfl (fun KK hK => ?_) AllReadyH.nil
              go_simp
              go_wp2_with (first | (go_at_call 23; refine (l1Int_any (fun _ => True) c a len cap w5.heap.size 3 _ HD6.out.cur (by omega) (by omega) zl hne zc).mono ?_; rintro e w7 ⟨⟨z, _, rfl⟩, hC7, hK7⟩))
              have HD7 := hidP (HD6.out.keep hC7 hK7)
              clear hC7 hK7 zb zl zc
              refine hK.out _ _ trivial (fun hHeld => ?_)
              clear hK KK
              refine tkA 7 50 (v := ?_) rfl (by kernel_rfl) (fun _ _ _ h => h) (by rfl) ?_ (by assumption) ?_; rotate_left; · (intro w hSw; (try dsimp only at hSw); go_simp; try with_reducible rfl)
              simp only [Act.put, List.setIfInBounds_toArray, List.set_cons_zero, List.set_cons_succ]
              refine tkA 8 51 (v := ?_) rfl (by kernel_rfl) (fun _ _ _ h => h) (by rfl) ?_ (by assumption) ?_; rotate_left; · (intro w hSw; (try dsimp only at hSw); go_simp; try with_reducible rfl)
              simp only [Act.put, List.setIfInBounds_toArray, List.set_cons_zero, List.set_cons_succ]
              refine wpAnyH_ready (rs := [9]) (by kernel_rfl) (by simp) ?_
              refine AllReadyH.cons rfl (fun KK hK => ?_) AllReadyH.nil
              obtain ⟨q, hgl, hq, c0, c1, c2, c3, c4, c5⟩ := rowLs0 HD7.out.own 0 (by rw [← HN.out.1]; exact hn0)
              have sF := HD7.out.own.frozen 5
              go_simp
              have HD8 := hidP (HD7.out.putL q z hq)
              have HQ := hidP hq
              clear c0 c1 c2 c3 c4 c5 hq sF
              refine hK.out _ _ trivial (fun hHeld => ?_)
              clear hK KK
              refine wpAnyH_done (by kernel_rfl) ?_ _
              clear hHeld
              generalize w7.setCell ⟨g, 5, none⟩ (.int .i64 z) = w8 at *
              have p0 := HD8.out.d0
              have q0 := HD8.out.r0
              have p1 := HD8.out.d1
              have q1 := HD8.out.r1
              have p2 := HD8.out.d2
              have q2 := HD8.out.r2
              have qF := HD8.out.rF
              have pF := HD8.out.dF
              go_wp2_with fail
              refine bodyPost_ret (v := .agg #[.slice (some ⟨g, 0, none⟩) n d1, .int .i64 K, .int .i64 N]) (by simp [results, Tryz.results41, go_sem, q0, q1, q2]) rfl ⟨(some ⟨g, 0, none⟩), n, d1, K, N, (ls.set 0 ⟨q.a, q.t, q.k, z⟩), rfl, (by rw [List.length_set]; exact HN.out.1), (by omega), (sml_set HN.out.2.2 HQ.out), (HD8.out.fin _ _ _).2.2, (HD8.out.fin _ _ _).1, (HD8.out.fin _ _ _).2.1⟩
            · have l2 := HD5d.out.d2
              go_simp
              clear l2
              refine hK.out _ _ trivial (fun hHeld => ?_)
              clear hK KK
              refine wpAnyH_ready (rs := [1, 5]) (by kernel_rfl) (by simp) ?_
              refine AllReadyH.cons rfl (fun KK hK => ?_) (AllReadyH.cons rfl (fun KK hK => ?_) AllReadyH.nil)
              · have l0 := HD5d.out.d0
                go_simp
                clear l0
                refine hK.out _ _ trivial (fun hHeld => ?_)
                clear hK KK
                refine wpAnyH_ready (rs := [5]) (by kernel_rfl) (by simp) ?_
                refine AllReadyH.cons rfl (fun KK hK => ?_) AllReadyH.nil
                go_simp
                have zb := (alloc_below w5 (.cells #[.int .i64 0, .int .i64 N, .int .i64 1000000001] 3)).drew
                have zl : w5.heap.size < (w5.alloc (.cells #[.int .i64 0, .int .i64 N, .int .i64 1000000001] 3)).drew.heap.size := alloc_lt w5 (.cells #[.int .i64 0, .int .i64 N, .int .i64 1000000001] 3)
                have zc : ∀ j, j < 3 → ∃ z, (fun _ : Int => True) z ∧ (w5.alloc (.cells #[.int .i64 0, .int .i64 N, .int .i64 1000000001] 3)).drew.cell? ⟨w5.heap.size, j, none⟩ = some (.int .i64 z) := cells3 w5 3 0 N 1000000001
                have HD6 := hidP (HD5.out.below zb)
                have hne : w5.heap.size ≠ c := by have := HD5.out.cur.lt; omega
                generalize (w5.alloc (.cells #[.int .i64 0, .int .i64 N, .int .i64 1000000001] 3)).drew = w6 at *
                refine hK.out _ _ trivial (fun hHeld => ?_)
                clear hK KK
                refine wpAnyH_ready (rs := [6]) (by kernel_rfl) (by simp) ?_
                refine AllReadyH.cons rfl (fun KK hK => ?_) AllReadyH.nil
                go_simp
                go_wp2_with (first | (go_at_call 23; refine (l1Int_any (fun _ => True) c a len cap w5.heap.size 3 _ HD6.out.cur (by omega) (by omega) zl hne zc).mono ?_; rintro e w7 ⟨⟨z, _, rfl⟩, hC7, hK7⟩))
                have HD7 := hidP (HD6.out.keep hC7 hK7)
                clear hC7 hK7 zb zl zc
                refine hK.out _ _ trivial (fun hHeld => ?_)
                clear hK KK
                refine tkA 7 50 (v := ?_) rfl (by kernel_rfl) (fun _ _ _ h => h) (by rfl) ?_ (by assumption) ?_; rotate_left; · (intro w hSw; (try dsimp only at hSw); go_simp; try with_reducible rfl)
                simp only [Act.put, List.setIfInBounds_toArray, List.set_cons_zero, List.set_cons_succ]
                refine tkA 8 51 (v := ?_) rfl (by kernel_rfl) (fun _ _ _ h => h) (by rfl) ?_ (by assumption) ?_; rotate_left; · (intro w hSw; (try dsimp only at hSw); go_simp; try with_reducible rfl)
                simp only [Act.put, List.setIfInBounds_toArray, List.set_cons_zero, List.set_cons_succ]
                refine wpAnyH_ready (rs := [9]) (by kernel_rfl) (by simp) ?_
                refine AllReadyH.cons rfl (fun KK hK => ?_) AllReadyH.nil
                obtain ⟨q, hgl, hq, c0, c1, c2, c3, c4, c5⟩ := rowLs0 HD7.out.own 0 (by rw [← HN.out.1]; exact hn0)
                have sF := HD7.out.own.frozen 5
                go_simp
                have HD8 := hidP (HD7.out.putL q z hq)
                have HQ := hidP hq
                clear c0 c1 c2 c3 c4 c5 hq sF
                refine hK.out _ _ trivial (fun hHeld => ?_)
                clear hK KK
                refine wpAnyH_done (by kernel_rfl) ?_ _
                clear hHeld
                generalize w7.setCell ⟨g, 5, none⟩ (.int .i64 z) = w8 at *
                have p0 := HD8.out.d0
                have q0 := HD8.out.r0
                have p1 := HD8.out.d1
                have q1 := HD8.out.r1
                have p2 := HD8.out.d2
                have q2 := HD8.out.r2
                have qF := HD8.out.rF
                have pF := HD8.out.dF
                go_wp2_with fail
                refine bodyPost_ret (v := .agg #[.slice (some ⟨g, 0, none⟩) n d1, .int .i64 K, .int .i64 N]) (by simp [results, Tryz.results41, go_sem, q0, q1, q2]) rfl ⟨(some ⟨g, 0, none⟩), n, d1, K, N, (ls.set 0 ⟨q.a, q.t, q.k, z⟩), rfl, (by rw [List.length_set]; exact HN.out.1), (by omega), (sml_set HN.out.2.2 HQ.out), (HD8.out.fin _ _ _).2.2, (HD8.out.fin _ _ _).1, (HD8.out.fin _ _ _).2.1⟩
              · go_simp
                have zb := (alloc_below w5 (.cells #[.int .i64 0, .int .i64 N, .int .i64 1000000001] 3)).drew
                have zl : w5.heap.size < (w5.alloc (.cells #[.int .i64 0, .int .i64 N, .int .i64 1000000001] 3)).drew.heap.size := alloc_lt w5 (.cells #[.int .i64 0, .int .i64 N, .int .i64 1000000001] 3)
                have zc : ∀ j, j < 3 → ∃ z, (fun _ : Int => True) z ∧ (w5.alloc (.cells #[.int .i64 0, .int .i64 N, .int .i64 1000000001] 3)).drew.cell? ⟨w5.heap.size, j, none⟩ = some (.int .i64 z) := cells3 w5 3 0 N 1000000001
                have HD6 := hidP (HD5.out.below zb)
                have hne : w5.heap.size ≠ c := by have := HD5.out.cur.lt; omega
                generalize (w5.alloc (.cells #[.int .i64 0, .int .i64 N, .int .i64 1000000001] 3)).drew = w6 at *
                refine hK.out _ _ trivial (fun hHeld => ?_)
                clear hK KK
                refine wpAnyH_ready (rs := [1, 6]) (by kernel_rfl) (by simp) ?_
                refine AllReadyH.cons rfl (fun KK hK => ?_) (AllReadyH.cons rfl (fun KK hK => ?_) AllReadyH.nil)
                · have l0 := HD6.out.d0
                  go_simp
                  clear l0
                  refine hK.out _ _ trivial (fun hHeld => ?_)
                  clear hK KK
                  refine wpAnyH_ready (rs := [6]) (by kernel_rfl) (by simp) ?_
                  refine AllReadyH.cons rfl (fun KK hK => ?_) AllReadyH.nil
                  go_simp
                  go_wp2_with (first | (go_at_call 23; refine (l1Int_any (fun _ => True) c a len cap w5.heap.size 3 _ HD6.out.cur (by omega) (by omega) zl hne zc).mono ?_; rintro e w7 ⟨⟨z, _, rfl⟩, hC7, hK7⟩))
                  have HD7 := hidP (HD6.out.keep hC7 hK7)
                  clear hC7 hK7 zb zl zc
                  refine hK.out _ _ trivial (fun hHeld => ?_)
                  clear hK KK
                  refine tkA 7 50 (v := ?_) rfl (by kernel_rfl) (fun _ _ _ h => h) (by rfl) ?_ (by assumption) ?_; rotate_left; · (intro w hSw; (try dsimp only at hSw); go_simp; try with_reducible rfl)
                  simp only [Act.put, List.setIfInBounds_toArray, List.set_cons_zero, List.set_cons_succ]
                  refine tkA 8 51 (v := ?_) rfl (by kernel_rfl) (fun _ _ _ h => h) (by rfl) ?_ (by assumption) ?_; rotate_left; · (intro w hSw; (try dsimp only at hSw); go_simp; try with_reducible rfl)
                  simp only [Act.put, List.setIfInBounds_toArray, List.set_cons_zero, List.set_cons_succ]
                  refine wpAnyH_ready (rs := [9]) (by kernel_rfl) (by simp) ?_
                  refine AllReadyH.cons rfl (fun KK hK => ?_) AllReadyH.nil
                  obtain ⟨q, hgl, hq, c0, c1, c2, c3, c4, c5⟩ := rowLs0 HD7.out.own 0 (by rw [← HN.out.1]; exact hn0)
                  have sF := HD7.out.own.frozen 5
                  go_simp
                  have HD8 := hidP (HD7.out.putL q z hq)
                  have HQ := hidP hq
                  clear c0 c1 c2 c3 c4 c5 hq sF
                  refine hK.out _ _ trivial (fun hHeld => ?_)
                  clear hK KK
                  refine wpAnyH_done (by kernel_rfl) ?_ _
                  clear hHeld
                  generalize w7.setCell ⟨g, 5, none⟩ (.int .i64 z) = w8 at *
                  have p0 := HD8.out.d0
                  have q0 := HD8.out.r0
                  have p1 := HD8.out.d1
                  have q1 := HD8.out.r1
                  have p2 := HD8.out.d2
                  have q2 := HD8.out.r2
                  have qF := HD8.out.rF
                  have pF := HD8.out.dF
                  go_wp2_with fail
                  refine bodyPost_ret (v := .agg #[.slice (some ⟨g, 0, none⟩) n d1, .int .i64 K, .int .i64 N]) (by simp [results, Tryz.results41, go_sem, q0, q1, q2]) rfl ⟨(some ⟨g, 0, none⟩), n, d1, K, N, (ls.set 0 ⟨q.a, q.t, q.k, z⟩), rfl, (by rw [List.length_set]; exact HN.out.1), (by omega), (sml_set HN.out.2.2 HQ.out), (HD8.out.fin _ _ _).2.2, (HD8.out.fin _ _ _).1, (HD8.out.fin _ _ _).2.1⟩
                · go_simp
                  go_wp2_with (first | (go_at_call 23; refine (l1Int_any (fun _ => True) c a len cap w5.heap.size 3 _ HD6.out.cur (by omega) (by omega) zl hne zc).mono ?_; rintro e w7 ⟨⟨z, _, rfl⟩, hC7, hK7⟩))
                  have HD7 := hidP (HD6.out.keep hC7 hK7)
                  clear hC7 hK7 zb zl zc
                  refine hK.out _ _ trivial (fun hHeld => ?_)
                  clear hK KK
                  refine wpAnyH_ready (rs := [1]) (by kernel_rfl) (by simp) ?_
                  refine AllReadyH.cons rfl (fun KK hK => ?_) AllReadyH.nil
                  have l0 := HD7.out.d0
                  go_simp
                  clear l0
                  refine hK.out _ _ trivial (fun hHeld => ?_)
                  clear hK KK
                  refine tkA 7 50 (v := ?_) rfl (by kernel_rfl) (fun _ _ _ h => h) (by rfl) ?_ (by assumption) ?_; rotate_left; · (intro w hSw; (try dsimp only at hSw); go_simp; try with_reducible rfl)
                  simp only [Act.put, List.setIfInBounds_toArray, List.set_cons_zero, List.set_cons_succ]
                  refine tkA 8 51 (v := ?_) rfl (by kernel_rfl) (fun _ _ _ h => h) (by rfl) ?_ (by assumption) ?_; rotate_left; · (intro w hSw; (try dsimp only at hSw); go_simp; try with_reducible rfl)
                  simp only [Act.put, List.setIfInBounds_toArray, List.set_cons_zero, List.set_cons_succ]
                  refine wpAnyH_ready (rs := [9]) (by kernel_rfl) (by simp) ?_
                  refine AllReadyH.cons rfl (fun KK hK => ?_) AllReadyH.nil
                  obtain ⟨q, hgl, hq, c0, c1, c2, c3, c4, c5⟩ := rowLs0 HD7.out.own 0 (by rw [← HN.out.1]; exact hn0)
                  have sF := HD7.out.own.frozen 5
                  go_simp
                  have HD8 := hidP (HD7.out.putL q z hq)
                  have HQ := hidP hq
                  clear c0 c1 c2 c3 c4 c5 hq sF
                  refine hK.out _ _ trivial (fun hHeld => ?_)
                  clear hK KK
                  refine wpAnyH_done (by kernel_rfl) ?_ _
                  clear hHeld
                  generalize w7.setCell ⟨g, 5, none⟩ (.int .i64 z) = w8 at *
                  have p0 := HD8.out.d0
                  have q0 := HD8.out.r0
                  have p1 := HD8.out.d1
                  have q1 := HD8.out.r1
                  have p2 := HD8.out.d2
                  have q2 := HD8.out.r2
                  have qF := HD8.out.rF
                  have pF := HD8.out.dF
                  go_wp2_with fail
                  refine bodyPost_ret (v := .agg #[.slice (some ⟨g, 0, none⟩) n d1, .int .i64 K, .int .i64 N]) (by simp [results, Tryz.results41, go_sem, q0, q1, q2]) rfl ⟨(some ⟨g, 0, none⟩), n, d1, K, N, (ls.set 0 ⟨q.a, q.t, q.k, z⟩), rfl, (by rw [List.length_set]; exact HN.out.1), (by omega), (sml_set HN.out.2.2 HQ.out), (HD8.out.fin _ _ _).2.2, (HD8.out.fin _ _ _).1, (HD8.out.fin _ _ _).2.1⟩
          · have gn : decide ((0 : Int) < (n : Int)) = false := decide_eq_false (by omega)
            have p0 := HD5.out.d0
            have q0 := HD5.out.r0
            have p1 := HD5.out.d1
            have q1 := HD5.out.r1
            have p2 := HD5.out.d2
            have q2 := HD5.out.r2
            have qF := HD5.out.rF
            have pF := HD5.out.dF
            go_wp2_with fail
            refine bodyPost_ret (v := .agg #[.slice b1 n d1, .int .i64 K, .int .i64 N]) (by simp [results, Tryz.results41, go_sem, q0, q1, q2]) rfl ⟨b1, n, d1, K, N, ls, rfl, HN.out.1, (by omega), HN.out.2.2, (HD5.out.fin _ _ _).2.2, (HD5.out.fin _ _ _).1, (HD5.out.fin _ _ _).2.1⟩
      · by_cases hn0 : 0 < n
        · have gn : decide ((0 : Int) < (n : Int)) = true := decide_eq_true (by omega)
          obtain ⟨g, rfl⟩ := own_some HD5.out.own hn0
          have p0 := HD5.out.d0
          go_wp2_with fail
          clear p0
          have HD5d := hidP (HD5.out.below (Below.refl _ _).drew)
          refine wp_region_held_drew (S := fun _ => True) (by kernel_rfl) trivial (fun hHeld => ?_)
          refine tkA 0 28 (v := ?_) rfl (by kernel_rfl) (fun _ _ _ h => h) (by rfl) ?_ (by assumption) ?_; rotate_left; · (intro w hSw; (try dsimp only at hSw); go_simp; try with_reducible rfl)
          simp only [Act.put, List.setIfInBounds_toArray, List.set_cons_zero, List.set_cons_succ]
          refine tkA 2 30 (v := ?_) rfl (by kernel_rfl) (fun _ _ _ h => h) (by rfl) ?_ (by assumption) ?_; rotate_left; · (intro w hSw; (try dsimp only at hSw); go_simp; try with_reducible rfl)
          simp only [Act.put, List.setIfInBounds_toArray, List.set_cons_zero, List.set_cons_succ]
          refine wpAnyH_ready (rs := [1, 3]) (by kernel_rfl) (by simp) ?_
          refine AllReadyH.cons rfl (fun KK hK => ?_) (AllReadyH.cons rfl (fun KK hK => ?_) AllReadyH.nil)
          · have l0 := HD5d.out.d0
            go_simp
            clear l0
            refine hK.out _ _ trivial (fun hHeld => ?_)
            clear hK KK
            refine wpAnyH_ready (rs := [3]) (by kernel_rfl) (by simp) ?_
            refine AllReadyH.cons rfl (fun KK hK => ?_) AllReadyH.nil
            have l0 := HD5d.out.d0
            go_simp
            clear l0
            refine hK.out _ _ trivial (fun hHeld => ?_)
            clear hK KK
            refine tkA 4 32 (v := ?_) rfl (by kernel_rfl) (fun _ _ _ h => h) (by rfl) ?_ (by assumption) ?_; rotate_left; · (intro w hSw; (try dsimp only at hSw); go_simp; try with_reducible rfl)
            simp only [Act.put, List.setIfInBounds_toArray, List.set_cons_zero, List.set_cons_succ]
            refine wpAnyH_ready (rs := [5]) (by kernel_rfl) (by simp) ?_
            refine AllReadyH.cons rfl (fun KK hK => ?_) AllReadyH.nil
            obtain ⟨q, hgl, hq, c0, c1, c2, c3, c4, c5⟩ := rowLs0 HD5d.out.own 0 (by rw [← HN.out.1]; exact hn0)
            go_simp
            have HQ := hidP hq
            clear c0 c1 c2 c3 c4 c5 hq
            refine hK.out _ _ trivial (fun hHeld => ?_)
            clear hK KK
            refine wpAnyH_ready (rs := [6]) (by kernel_rfl) (by simp) ?_
            refine AllReadyH.cons rfl (fun KK hK => ?_) AllReadyH.nil
            go_simp
            have one : OwnG KLs 35 (w5.alloc (.cells #[.bool q.a.s, .int .i64 q.a.H.toInt, .int .i64 q.a.L.toInt, .string q.t, .int .i64 q.k, .int .i64 q.u] 35)).drew 0 (.slice (some ⟨w5.heap.size, 0, none⟩) 1 1) [q] := OwnG.drewG (own_oneG KLs w5 0 35 q (Nat.zero_le _))
            have zb := (alloc_below w5 (.cells #[.bool q.a.s, .int .i64 q.a.H.toInt, .int .i64 q.a.L.toInt, .string q.t, .int .i64 q.k, .int .i64 q.u] 35)).drew
            have HD6 := hidP (HD5.out.below zb)
            have HZ := hidP zb
            have ONE := hidP one
            clear one zb
            generalize (w5.alloc (.cells #[.bool q.a.s, .int .i64 q.a.H.toInt, .int .i64 q.a.L.toInt, .string q.t, .int .i64 q.k, .int .i64 q.u] 35)).drew = w6 at *
            refine hK.out _ _ trivial (fun hHeld => ?_)
            clear hK KK
            refine wpAnyH_ready (rs := [7]) (by kernel_rfl) (by simp) ?_
            refine AllReadyH.cons rfl (fun KK hK => ?_) AllReadyH.nil
            refine step_appG Tryz.tyLs _ rfl (.tmp 29) (.tmp 34) 24 rfl (W.heap.size + 1 + 1) (some ⟨g, 0, none⟩) n d1 1 ls [q] (.slice (some ⟨w5.heap.size, 0, none⟩) 1 1) rfl HN.out.1 rfl HD6.out.own rfl (src_rowG Tryz.tyLs.1 1 1 (by show 0 < 6; omega) rfl ONE.out.row (fun h => by cases h)) (by omega) HD6.out.sz ?_
            intro a9 c9 w9 ho9 hg9 ht9
            have HA := hidP (HD5.out.app HZ.out ho9 hg9 ht9)
            clear ho9 hg9 ht9
            refine hK.out _ _ trivial (fun hHeld => ?_)
            clear hK KK
            refine tkA 8 36 (v := ?_) rfl (by kernel_rfl) (fun _ _ _ h => h) (by rfl) ?_ (by assumption) ?_; rotate_left; · (intro w hSw; (try dsimp only at hSw); go_simp; try with_reducible rfl)
            simp only [Act.put, List.setIfInBounds_toArray]
            refine wpAnyH_ready (rs := [9]) (by kernel_rfl) (by simp) ?_
            refine AllReadyH.cons rfl (fun KK hK => ?_) AllReadyH.nil
            have s0 := HA.out.2.1
            have sF := HA.out.2.2
            go_simp
            clear s0 sF
            have HD9 := hidP HA.out.1
            clear HA
            refine hK.out _ _ trivial (fun hHeld => ?_)
            clear hK KK
            refine wpAnyH_done (by kernel_rfl) ?_ _
            clear hHeld
            generalize w9.setCell ⟨w3.heap.size, 0, none⟩ (.slice a9 (n + 1) c9) = w10 at *
            have p0 := HD9.out.d0
            have q0 := HD9.out.r0
            have p1 := HD9.out.d1
            have q1 := HD9.out.r1
            have p2 := HD9.out.d2
            have q2 := HD9.out.r2
            have qF := HD9.out.rF
            have pF := HD9.out.dF
            go_wp2_with fail
            refine bodyPost_ret (v := .agg #[.slice a9 (n + 1) c9, .int .i64 K, .int .i64 N]) (by simp [results, Tryz.results41, go_sem, q0, q1, q2]) rfl ⟨a9, (n + 1), c9, K, N, (ls ++ [q]), rfl, (by rw [List.length_append, ← HN.out.1]; rfl), (Nat.le_refl _), (sml_app HN.out.2.2 HQ.out), (HD9.out.fin _ _ _).2.2, (HD9.out.fin _ _ _).1, (HD9.out.fin _ _ _).2.1⟩
          · have l0 := HD5d.out.d0
            go_simp
            clear l0
            refine hK.out _ _ trivial (fun hHeld => ?_)
            clear hK KK
            refine tkA 4 32 (v := ?_) rfl (by kernel_rfl) (fun _ _ _ h => h) (by rfl) ?_ (by assumption) ?_; rotate_left; · (intro w hSw; (try dsimp only at hSw); go_simp; try with_reducible rfl)
            simp only [Act.put, List.setIfInBounds_toArray, List.set_cons_zero, List.set_cons_succ]
            refine wpAnyH_ready (rs := [1, 5]) (by kernel_rfl) (by simp) ?_
            refine AllReadyH.cons rfl (fun KK hK => ?_) (AllReadyH.cons rfl (fun KK hK => ?_) AllReadyH.nil)
            · have l0 := HD5d.out.d0
              go_simp
              clear l0
              refine hK.out _ _ trivial (fun hHeld => ?_)
              clear hK KK
              refine wpAnyH_ready (rs := [5]) (by kernel_rfl) (by simp) ?_
              refine AllReadyH.cons rfl (fun KK hK => ?_) AllReadyH.nil
              obtain ⟨q, hgl, hq, c0, c1, c2, c3, c4, c5⟩ := rowLs0 HD5d.out.own 0 (by rw [← HN.out.1]; exact hn0)
              go_simp
              have HQ := hidP hq
              clear c0 c1 c2 c3 c4 c5 hq
              refine hK.out _ _ trivial (fun hHeld => ?_)
              clear hK KK
              refine wpAnyH_ready (rs := [6]) (by kernel_rfl) (by simp) ?_
              refine AllReadyH.cons rfl (fun KK hK => ?_) AllReadyH.nil
              go_simp
              have one : OwnG KLs 35 (w5.alloc (.cells #[.bool q.a.s, .int .i64 q.a.H.toInt, .int .i64 q.a.L.toInt, .string q.t, .int .i64 q.k, .int .i64 q.u] 35)).drew 0 (.slice (some ⟨w5.heap.size, 0, none⟩) 1 1) [q] := OwnG.drewG (own_oneG KLs w5 0 35 q (Nat.zero_le _))
              have zb := (alloc_below w5 (.cells #[.bool q.a.s, .int .i64 q.a.H.toInt, .int .i64 q.a.L.toInt, .string q.t, .int .i64 q.k, .int .i64 q.u] 35)).drew
              have HD6 := hidP (HD5.out.below zb)
              have HZ := hidP zb
              have ONE := hidP one
              clear one zb
              generalize (w5.alloc (.cells #[.bool q.a.s, .int .i64 q.a.H.toInt, .int .i64 q.a.L.toInt, .string q.t, .int .i64 q.k, .int .i64 q.u] 35)).drew = w6 at *
              refine hK.out _ _ trivial (fun hHeld => ?_)
              clear hK KK
              refine wpAnyH_ready (rs := [7]) (by kernel_rfl) (by simp) ?_
              refine AllReadyH.cons rfl (fun KK hK => ?_) AllReadyH.nil
              refine step_appG Tryz.tyLs _ rfl (.tmp 29) (.tmp 34) 24 rfl (W.heap.size + 1 + 1) (some ⟨g, 0, none⟩) n d1 1 ls [q] (.slice (some ⟨w5.heap.size, 0, none⟩) 1 1) rfl HN.out.1 rfl HD6.out.own rfl (src_rowG Tryz.tyLs.1 1 1 (by show 0 < 6; omega) rfl ONE.out.row (fun h => by cases h)) (by omega) HD6.out.sz ?_
              intro a9 c9 w9 ho9 hg9 ht9
              have HA := hidP (HD5.out.app HZ.out ho9 hg9 ht9)
              clear ho9 hg9 ht9
              refine hK.out _ _ trivial (fun hHeld => ?_)
              clear hK KK
              refine tkA 8 36 (v := ?_) rfl (by kernel_rfl) (fun _ _ _ h => h) (by rfl) ?_ (by assumption) ?_; rotate_left; · (intro w hSw; (try dsimp only at hSw); go_simp; try with_reducible rfl)
              simp only [Act.put, List.setIfInBounds_toArray]
              refine wpAnyH_ready (rs := [9]) (by kernel_rfl) (by simp) ?_
              refine AllReadyH.cons rfl (fun KK hK => ?_) AllReadyH.nil
              have s0 := HA.out.2.1
              have sF := HA.out.2.2
              go_simp
              clear s0 sF
              have HD9 := hidP HA.out.1
              clear HA
              refine hK.out _ _ trivial (fun hHeld => ?_)
              clear hK KK
              refine wpAnyH_done (by kernel_rfl) ?_ _
              clear hHeld
              generalize w9.setCell ⟨w3.heap.size, 0, none⟩ (.slice a9 (n + 1) c9) = w10 at *
              have p0 := HD9.out.d0
              have q0 := HD9.out.r0
              have p1 := HD9.out.d1
              have q1 := HD9.out.r1
              have p2 := HD9.out.d2
              have q2 := HD9.out.r2
              have qF := HD9.out.rF
              have pF := HD9.out.dF
              go_wp2_with fail
              refine bodyPost_ret (v := .agg #[.slice a9 (n + 1) c9, .int .i64 K, .int .i64 N]) (by simp [results, Tryz.results41, go_sem, q0, q1, q2]) rfl ⟨a9, (n + 1), c9, K, N, (ls ++ [q]), rfl, (by rw [List.length_append, ← HN.out.1]; rfl), (Nat.le_refl _), (sml_app HN.out.2.2 HQ.out), (HD9.out.fin _ _ _).2.2, (HD9.out.fin _ _ _).1, (HD9.out.fin _ _ _).2.1⟩
            · obtain ⟨q, hgl, hq, c0, c1, c2, c3, c4, c5⟩ := rowLs0 HD5d.out.own 0 (by rw [← HN.out.1]; exact hn0)
              go_simp
              have HQ := hidP hq
              clear c0 c1 c2 c3 c4 c5 hq
              refine hK.out _ _ trivial (fun hHeld => ?_)
              clear hK KK
              refine wpAnyH_ready (rs := [1, 6]) (by kernel_rfl) (by simp) ?_
              refine AllReadyH.cons rfl (fun KK hK => ?_) (AllReadyH.cons rfl (fun KK hK => ?_) AllReadyH.nil)
              · have l0 := HD5d.out.d0
                go_simp
                clear l0
                refine hK.out _ _ trivial (fun hHeld => ?_)
                clear hK KK
                refine wpAnyH_ready (rs := [6]) (by kernel_rfl) (by simp) ?_
                refine AllReadyH.cons rfl (fun KK hK => ?_) AllReadyH.nil
                go_simp
                have one : OwnG KLs 35 (w5.alloc (.cells #[.bool q.a.s, .int .i64 q.a.H.toInt, .int .i64 q.a.L.toInt, .string q.t, .int .i64 q.k, .int .i64 q.u] 35)).drew 0 (.slice (some ⟨w5.heap.size, 0, none⟩) 1 1) [q] := OwnG.drewG (own_oneG KLs w5 0 35 q (Nat.zero_le _))
                have zb := (alloc_below w5 (.cells #[.bool q.a.s, .int .i64 q.a.H.toInt, .int .i64 q.a.L.toInt, .string q.t, .int .i64 q.k, .int .i64 q.u] 35)).drew
                have HD6 := hidP (HD5.out.below zb)
                have HZ := hidP zb
                have ONE := hidP one
                clear one zb
                generalize (w5.alloc (.cells #[.bool q.a.s, .int .i64 q.a.H.toInt, .int .i64 q.a.L.toInt, .string q.t, .int .i64 q.k, .int .i64 q.u] 35)).drew = w6 at *
                refine hK.out _ _ trivial (fun hHeld => ?_)
                clear hK KK
                refine wpAnyH_ready (rs := [7]) (by kernel_rfl) (by simp) ?_
                refine AllReadyH.cons rfl (fun KK hK => ?_) AllReadyH.nil
                refine step_appG Tryz.tyLs _ rfl (.tmp 29) (.tmp 34) 24 rfl (W.heap.size + 1 + 1) (some ⟨g, 0, none⟩) n d1 1 ls [q] (.slice (some ⟨w5.heap.size, 0, none⟩) 1 1) rfl HN.out.1 rfl HD6.out.own rfl (src_rowG Tryz.tyLs.1 1 1 (by show 0 < 6; omega) rfl ONE.out.row (fun h => by cases h)) (by omega) HD6.out.sz ?_
                intro a9 c9 w9 ho9 hg9 ht9
                have HA := hidP (HD5.out.app HZ.out ho9 hg9 ht9)
                clear ho9 hg9 ht9
                refine hK.out _ _ trivial (fun hHeld => ?_)
                clear hK KK
                refine tkA 8 36 (v := ?_) rfl (by kernel_rfl) (fun _ _ _ h => h) (by rfl) ?_ (by assumption) ?_; rotate_left; · (intro w hSw; (try dsimp only at hSw); go_simp; try with_reducible rfl)
                simp only [Act.put, List.setIfInBounds_toArray]
                refine wpAnyH_ready (rs := [9]) (by kernel_rfl) (by simp) ?_
                refine AllReadyH.cons rfl (fun KK hK => ?_) AllReadyH.nil
                have s0 := HA.out.2.1
                have sF := HA.out.2.2
                go_simp
                clear s0 sF
                have HD9 := hidP HA.out.1
                clear HA
                refine hK.out _ _ trivial (fun hHeld => ?_)
                clear hK KK
                refine wpAnyH_done (by kernel_rfl) ?_ _
                clear hHeld
                generalize w9.setCell ⟨w3.heap.size, 0, none⟩ (.slice a9 (n + 1) c9) = w10 at *
                have p0 := HD9.out.d0
                have q0 := HD9.out.r0
                have p1 := HD9.out.d1
                have q1 := HD9.out.r1
                have p2 := HD9.out.d2
                have q2 := HD9.out.r2
                have qF := HD9.out.rF
                have pF := HD9.out.dF
                go_wp2_with fail
                refine bodyPost_ret (v := .agg #[.slice a9 (n + 1) c9, .int .i64 K, .int .i64 N]) (by simp [results, Tryz.results41, go_sem, q0, q1, q2]) rfl ⟨a9, (n + 1), c9, K, N, (ls ++ [q]), rfl, (by rw [List.length_append, ← HN.out.1]; rfl), (Nat.le_refl _), (sml_app HN.out.2.2 HQ.out), (HD9.out.fin _ _ _).2.2, (HD9.out.fin _ _ _).1, (HD9.out.fin _ _ _).2.1⟩
              · go_simp
                have one : OwnG KLs 35 (w5.alloc (.cells #[.bool q.a.s, .int .i64 q.a.H.toInt, .int .i64 q.a.L.toInt, .string q.t, .int .i64 q.k, .int .i64 q.u] 35)).drew 0 (.slice (some ⟨w5.heap.size, 0, none⟩) 1 1) [q] := OwnG.drewG (own_oneG KLs w5 0 35 q (Nat.zero_le _))
                have zb := (alloc_below w5 (.cells #[.bool q.a.s, .int .i64 q.a.H.toInt, .int .i64 q.a.L.toInt, .string q.t, .int .i64 q.k, .int .i64 q.u] 35)).drew
                have HD6 := hidP (HD5.out.below zb)
                have HZ := hidP zb
                have ONE := hidP one
                clear one zb
                generalize (w5.alloc (.cells #[.bool q.a.s, .int .i64 q.a.H.toInt, .int .i64 q.a.L.toInt, .string q.t, .int .i64 q.k, .int .i64 q.u] 35)).drew = w6 at *
                refine hK.out _ _ trivial (fun hHeld => ?_)
                clear hK KK
                refine wpAnyH_ready (rs := [1]) (by kernel_rfl) (by simp) ?_
                refine AllReadyH.cons rfl (fun KK hK => ?_) AllReadyH.nil
                have l0 := HD6.out.d0
                go_simp
                clear l0
                refine hK.out _ _ trivial (fun hHeld => ?_)
                clear hK KK
                refine wpAnyH_ready (rs := [7]) (by kernel_rfl) (by simp) ?_
                refine AllReadyH.cons rfl (fun KK hK => ?_) AllReadyH.nil
                refine step_appG Tryz.tyLs _ rfl (.tmp 29) (.tmp 34) 24 rfl (W.heap.size + 1 + 1) (some ⟨g, 0, none⟩) n d1 1 ls [q] (.slice (some ⟨w5.heap.size, 0, none⟩) 1 1) rfl HN.out.1 rfl HD6.out.own rfl (src_rowG Tryz.tyLs.1 1 1 (by show 0 < 6; omega) rfl ONE.out.row (fun h => by cases h)) (by omega) HD6.out.sz ?_
                intro a9 c9 w9 ho9 hg9 ht9
                have HA := hidP (HD5.out.app HZ.out ho9 hg9 ht9)
                clear ho9 hg9 ht9
                refine hK.out _ _ trivial (fun hHeld => ?_)
                clear hK KK
                refine tkA 8 36 (v := ?_) rfl (by kernel_rfl) (fun _ _ _ h => h) (by rfl) ?_ (by assumption) ?_; rotate_left; · (intro w hSw; (try dsimp only at hSw); go_simp; try with_reducible rfl)
                simp only [Act.put, List.setIfInBounds_toArray]
                refine wpAnyH_ready (rs := [9]) (by kernel_rfl) (by simp) ?_
                refine AllReadyH.cons rfl (fun KK hK => ?_) AllReadyH.nil
                have s0 := HA.out.2.1
                have sF := HA.out.2.2
                go_simp
                clear s0 sF
                have HD9 := hidP HA.out.1
                clear HA
                refine hK.out _ _ trivial (fun hHeld => ?_)
                clear hK KK
                refine wpAnyH_done (by kernel_rfl) ?_ _
                clear hHeld
                generalize w9.setCell ⟨w3.heap.size, 0, none⟩ (.slice a9 (n + 1) c9) = w10 at *
                have p0 := HD9.out.d0
                have q0 := HD9.out.r0
                have p1 := HD9.out.d1
                have q1 := HD9.out.r1
                have p2 := HD9.out.d2
                have q2 := HD9.out.r2
                have qF := HD9.out.rF
                have pF := HD9.out.dF
                go_wp2_with fail
                refine bodyPost_ret (v := .agg #[.slice a9 (n + 1) c9, .int .i64 K, .int .i64 N]) (by simp [results, Tryz.results41, go_sem, q0, q1, q2]) rfl ⟨a9, (n + 1), c9, K, N, (ls ++ [q]), rfl, (by rw [List.length_append, ← HN.out.1]; rfl), (Nat.le_refl _), (sml_app HN.out.2.2 HQ.out), (HD9.out.fin _ _ _).2.2, (HD9.out.fin _ _ _).1, (HD9.out.fin _ _ _).2.1⟩
        · have gn : decide ((0 : Int) < (n : Int)) = false := decide_eq_false (by omega)
          have p0 := HD5.out.d0
          have q0 := HD5.out.r0
          have p1 := HD5.out.d1
          have q1 := HD5.out.r1
          have p2 := HD5.out.d2
          have q2 := HD5.out.r2
          have qF := HD5.out.rF
          have pF := HD5.out.dF
          go_wp2_with fail
          refine bodyPost_ret (v := .agg #[.slice b1 n d1, .int .i64 K, .int .i64 N]) (by simp [results, Tryz.results41, go_sem, q0, q1, q2]) rfl ⟨b1, n, d1, K, N, ls, rfl, HN.out.1, (by omega), HN.out.2.2, (HD5.out.fin _ _ _).2.2, (HD5.out.fin _ _ _).1, (HD5.out.fin _ _ _).2.1⟩
    · go_wp2_with fail
      have zb := alloc_below w5 (.cells #[.int .i64 (-1), .int .i64 1000000000, .int .i64 1000000001, .int .i64 999999980] 3)
      have zl := alloc_lt w5 (.cells #[.int .i64 (-1), .int .i64 1000000000, .int .i64 1000000001, .int .i64 999999980] 3)
      have zc := cells4 w5 3 (-1) 1000000000 1000000001 999999980
      have HD6 := hidP (HD5.out.below zb)
      have hne : w5.heap.size ≠ c := by have := HD5.out.cur.lt; omega
      generalize w5.alloc (.cells #[.int .i64 (-1), .int .i64 1000000000, .int .i64 1000000001, .int .i64 999999980] 3) = w6 at *
      refine (l1Int_any (fun _ => True) c a len cap w5.heap.size 4 _ HD6.out.cur (by omega) (by omega) zl hne zc).mono ?_
      rintro e w7 ⟨⟨z, _, rfl⟩, hC7, hK7⟩
      have HD7 := hidP (HD6.out.keep hC7 hK7)
      clear hC7 hK7 zb zl zc
      have p0 := HD7.out.d0
      have q0 := HD7.out.r0
      have p1 := HD7.out.d1
      have q1 := HD7.out.r1
      have p2 := HD7.out.d2
      have q2 := HD7.out.r2
      have qF := HD7.out.rF
      have pF := HD7.out.dF
      go_wp2_with fail
      refine bodyPost_ret (v := .agg #[.slice b1 n d1, .int .i64 K, .int .i64 z]) (by simp [results, Tryz.results41, go_sem, q0, q1, q2]) rfl ⟨b1, n, d1, K, z, ls, rfl, HN.out.1, (by omega), HN.out.2.2, ((HD7.out.putN z).fin _ _ _).2.2, ((HD7.out.putN z).fin _ _ _).1, ((HD7.out.putN z).fin _ _ _).2.1⟩
  · go_wp2_with fail
    have zb := alloc_below w5 (.cells #[.int .i64 (-1), .int .i64 0, .int .i64 1000000000, .int .i64 1000000001] 3)
    have zl := alloc_lt w5 (.cells #[.int .i64 (-1), .int .i64 0, .int .i64 1000000000, .int .i64 1000000001] 3)
    have zc := cells4 w5 3 (-1) 0 1000000000 1000000001
    have HD6 := hidP (HD5.out.below zb)
    have hne : w5.heap.size ≠ c := by have := HD5.out.cur.lt; omega
    generalize w5.alloc (.cells #[.int .i64 (-1), .int .i64 0, .int .i64 1000000000, .int .i64 1000000001] 3) = w6 at *
    refine (l1Int_any (fun _ => True) c a len cap w5.heap.size 4 _ HD6.out.cur (by omega) (by omega) zl hne zc).mono ?_
    rintro e w7 ⟨⟨z, _, rfl⟩, hC7, hK7⟩
    have HD7 := hidP (HD6.out.keep hC7 hK7)
    clear hC7 hK7 zb zl zc
    have p0 := HD7.out.d0
    have q0 := HD7.out.r0
    have p1 := HD7.out.d1
    have q1 := HD7.out.r1
    have p2 := HD7.out.d2
    have q2 := HD7.out.r2
    have qF := HD7.out.rF
    have pF := HD7.out.dF
    go_wp2_with fail
    refine bodyPost_ret (v := .agg #[.slice b1 n d1, .int .i64 z, .int .i64 N]) (by simp [results, Tryz.results41, go_sem, q0, q1, q2]) rfl ⟨b1, n, d1, z, N, ls, rfl, HN.out.1, (by omega), HN.out.2.2, ((HD7.out.putK z).fin _ _ _).2.2, ((HD7.out.putK z).fin _ _ _).1, ((HD7.out.putK z).fin _ _ _).2.1⟩

end Go.Proofs.YtddnofonodgneaaGreatDoor
namespace Go.Proofs.YtddnofonodgneaaGreatDoor
open Go.RowKit

/-- A box of noughts for a lease, behind all that. -/
structure BxL (W Y : World) (x : Nat) : Prop where
  z0 : Y.cell? ⟨x, 0, none⟩ = some (.bool false)
  z1 : Y.cell? ⟨x, 1, none⟩ = some (.int .i64 0)
  z2 : Y.cell? ⟨x, 2, none⟩ = some (.int .i64 0)
  z3 : Y.cell? ⟨x, 3, none⟩ = some (.string ⟨#[]⟩)
  z4 : Y.cell? ⟨x, 4, none⟩ = some (.int .i64 0)
  z5 : Y.cell? ⟨x, 5, none⟩ = some (.int .i64 0)
  zF : ∀ o, Y.frozen? ⟨x, o, none⟩ = false
  zl : x < Y.heap.size
  zW : W.heap.size + 2 ≤ x
theorem BxL.keep {c : Nat} {W Y Z : World} {x : Nat} (h : BxL W Y x) (hc : c < W.heap.size) (k : Kp c Y Z) : BxL W Z x := by
  have h1 := h.zl; have h2 := h.zW
  exact ⟨(k.cel _ _ h1 (by omega)).trans h.z0, (k.cel _ _ h1 (by omega)).trans h.z1, (k.cel _ _ h1 (by omega)).trans h.z2, (k.cel _ _ h1 (by omega)).trans h.z3, (k.cel _ _ h1 (by omega)).trans h.z4, (k.cel _ _ h1 (by omega)).trans h.z5, fun o => (k.frz _ _ h1 (by omega)).trans (h.zF o), Nat.lt_of_lt_of_le h1 k.big, h.zW⟩
theorem BxL.mk' (W Y : World) (h : W.heap.size + 2 ≤ Y.heap.size) (t : TypeId) : BxL W (Y.alloc (.cells #[.bool false, .int .i64 0, .int .i64 0, .string ⟨#[]⟩, .int .i64 0, .int .i64 0] t)) Y.heap.size :=
  ⟨by simp [go_sem], by simp [go_sem], by simp [go_sem], by simp [go_sem], by simp [go_sem], by simp [go_sem], fun o => by simp [go_sem], alloc_lt _ _, h⟩
theorem BxL.drew {W Y : World} {x : Nat} (h : BxL W Y x) : BxL W Y.drew x := ⟨h.z0, h.z1, h.z2, h.z3, h.z4, h.z5, h.zF, h.zl, h.zW⟩
/-- The box gets a lease. -/
theorem BkI.box {c : Nat} {a : Option Addr} {len cap : Nat} {W X : World} {b : Option Addr} {n d : Nat} {K N : Int} {ls : List Ls} {x : Nat} (h : BkI c a len cap W X b n d K N ls) (z : BxL W X x) (hr : ∀ k, (Value.slice b n d).ownBlock = some k → k ≠ x) (q : Ls) :
    BkI c a len cap W ((((((X.setCell ⟨x, 0, none⟩ (.bool q.a.s)).setCell ⟨x, 1, none⟩ (.int .i64 q.a.H.toInt)).setCell ⟨x, 2, none⟩ (.int .i64 q.a.L.toInt)).setCell ⟨x, 3, none⟩ (.string q.t)).setCell ⟨x, 4, none⟩ (.int .i64 q.k)).setCell ⟨x, 5, none⟩ (.int .i64 q.u)) b n d K N ls ∧ ((((((X.setCell ⟨x, 0, none⟩ (.bool q.a.s)).setCell ⟨x, 1, none⟩ (.int .i64 q.a.H.toInt)).setCell ⟨x, 2, none⟩ (.int .i64 q.a.L.toInt)).setCell ⟨x, 3, none⟩ (.string q.t)).setCell ⟨x, 4, none⟩ (.int .i64 q.k)).setCell ⟨x, 5, none⟩ (.int .i64 q.u)).cell? ⟨x, 0, none⟩ = some (.bool q.a.s) ∧ ((((((X.setCell ⟨x, 0, none⟩ (.bool q.a.s)).setCell ⟨x, 1, none⟩ (.int .i64 q.a.H.toInt)).setCell ⟨x, 2, none⟩ (.int .i64 q.a.L.toInt)).setCell ⟨x, 3, none⟩ (.string q.t)).setCell ⟨x, 4, none⟩ (.int .i64 q.k)).setCell ⟨x, 5, none⟩ (.int .i64 q.u)).cell? ⟨x, 1, none⟩ = some (.int .i64 q.a.H.toInt) ∧ ((((((X.setCell ⟨x, 0, none⟩ (.bool q.a.s)).setCell ⟨x, 1, none⟩ (.int .i64 q.a.H.toInt)).setCell ⟨x, 2, none⟩ (.int .i64 q.a.L.toInt)).setCell ⟨x, 3, none⟩ (.string q.t)).setCell ⟨x, 4, none⟩ (.int .i64 q.k)).setCell ⟨x, 5, none⟩ (.int .i64 q.u)).cell? ⟨x, 2, none⟩ = some (.int .i64 q.a.L.toInt) ∧ ((((((X.setCell ⟨x, 0, none⟩ (.bool q.a.s)).setCell ⟨x, 1, none⟩ (.int .i64 q.a.H.toInt)).setCell ⟨x, 2, none⟩ (.int .i64 q.a.L.toInt)).setCell ⟨x, 3, none⟩ (.string q.t)).setCell ⟨x, 4, none⟩ (.int .i64 q.k)).setCell ⟨x, 5, none⟩ (.int .i64 q.u)).cell? ⟨x, 4, none⟩ = some (.int .i64 q.k) ∧ x < ((((((X.setCell ⟨x, 0, none⟩ (.bool q.a.s)).setCell ⟨x, 1, none⟩ (.int .i64 q.a.H.toInt)).setCell ⟨x, 2, none⟩ (.int .i64 q.a.L.toInt)).setCell ⟨x, 3, none⟩ (.string q.t)).setCell ⟨x, 4, none⟩ (.int .i64 q.k)).setCell ⟨x, 5, none⟩ (.int .i64 q.u)).heap.size := by
  have h1 := z.zW
  exact ⟨(((((h.far h1 hr _).far h1 hr _).far h1 hr _).far h1 hr _).far h1 hr _).far h1 hr _, by simp [go_sem, z.z0], by simp [go_sem, z.z1], by simp [go_sem, z.z2], by simp [go_sem, z.z4], by simpa using z.zl⟩

set_option maxRecDepth 10000 in
set_option maxHeartbeats 8000000 in
theorem l6Draw_any (c : Nat) (a : Option Addr) (len cap : Nat) (m : Int) (W : World) (hC : Cur W c a len cap) (hm : 0 < m) (hm9 : m ≤ 100) :
    Calls Tryz.prog 40 #[.pointer (some ⟨c, 0, none⟩), .int .i64 m] W fun e W' => ∃ b n d K N ls, e = .returned (.agg #[.slice b n d, .int .i64 K, .int .i64 N]) ∧ n = ls.length ∧ n ≤ 80 ∧ Sml ls ∧ OwnG KLs 35 W' W.heap.size (.slice b n d) ls ∧ Cur W' c a len cap ∧ Kp c W W' := by
  have HC := hidP hC
  have hcl := hC.lt
  clear hC
  go_enter Tryz.func40, Tryz.ntmps40
  go_wp2_with fail
  have HD := hidP (show BkI c a len cap W ((W.alloc (.cells #[.slice none 0 0, .int .i64 0, .int .i64 0] 26)).alloc (.cells #[.slice none 0 0, .int .i64 0, .int .i64 0] 26)) none 0 0 0 0 [] from by
    have b1 := alloc_below W (.cells #[.slice none 0 0, .int .i64 0, .int .i64 0] 26)
    have b2 := alloc_below (W.alloc (.cells #[.slice none 0 0, .int .i64 0, .int .i64 0] 26)) (.cells #[.slice none 0 0, .int .i64 0, .int .i64 0] 26)
    have s1 : (W.alloc (.cells #[.slice none 0 0, .int .i64 0, .int .i64 0] 26)).heap.size = W.heap.size + 1 := by simp
    have bb := b1.trans (b2.mono b1.size)
    exact ⟨HC.out.grew bb, Kp.of_below hcl bb, hcl, by simp, by simp [go_sem], by simp [go_sem], by simp [go_sem], fun o => by simp [go_sem], by simp [go_sem], by simp [go_sem], by simp [go_sem], fun o => by simp [go_sem], own_noneG KLs _ _ _, by omega, fun q hq => by cases hq⟩)
  generalize (W.alloc (.cells #[.slice none 0 0, .int .i64 0, .int .i64 0] 26)).alloc (.cells #[.slice none 0 0, .int .i64 0, .int .i64 0] 26) = W2 at *
  refine (l1Below_any c a len cap m _ HD.out.cur).mono ?_
  rintro e w3 ⟨⟨x, x0, x9, rfl⟩, hC3, hK3⟩
  have HD3 := hidP (HD.out.keep hC3 hK3)
  have hx9 := x9 hm
  obtain ⟨i0, rfl⟩ : ∃ j : Nat, x = (j : Int) := ⟨x.toNat, by omega⟩
  clear hC3 hK3 x9 HD HC
  go_wp2_with fail
  go_loopw [6, 7] (fun t6 _ wr => ∃ (i : Nat) (b : Option Addr) (n d : Nat) (K N : Int) (ls : List Ls), t6 = .int .i64 i ∧ i ≤ 100 ∧ n ≤ 80 ∧ BkI c a len cap W wr b n d K N ls) (fun t6 _ _ => (intOf t6).toNat)
  case atStart => exact ⟨i0, none, 0, 0, 0, 0, [], rfl, by omega, by omega, HD3.out⟩
  case round =>
    obtain ⟨i, b, n, d, K, N, ls, rfl, hi, h80, hD⟩ := hrel
    have HD0 := hidP hD
    obtain ⟨hn, hnd, hd9, hbn⟩ := hD.own.caps
    have HN := hidP (And.intro hn (And.intro hnd (And.intro hd9 hbn)))
    have HS := hidP hD.sml
    clear hD hn hnd hd9 hbn HD3 x0 hx9
    by_cases hi0 : 0 < i
    · have g0 : decide ((0 : Int) < (i : Int)) = true := decide_eq_true (by omega)
      go_wp2_with fail
      refine (l1Below_any c a len cap 6 _ HD0.out.cur).mono ?_
      rintro e w1 ⟨⟨x, x0, x9, rfl⟩, hC1, hK1⟩
      have HD1 := hidP (HD0.out.keep hC1 hK1)
      clear hC1 hK1 x9
      cases hx0 : (x == 0)
      · cases hx1 : (x == 1)
        · go_wp2_with fail
          have HD1d := hidP (HD1.out.drew)
          refine wp_region_held_drew (S := fun _ => True) (by kernel_rfl) trivial (fun hHeld => ?_)
          refine tkA 1 20 (v := ?_) rfl (by kernel_rfl) (fun _ _ _ h => h) (by rfl) ?_ (by assumption) ?_; rotate_left; · (intro w hSw; (try dsimp only at hSw); go_simp; try with_reducible rfl)
          simp only [Act.put, List.setIfInBounds_toArray, List.set_cons_zero, List.set_cons_succ]
          refine tkA 3 22 (v := ?_) rfl (by kernel_rfl) (fun _ _ _ h => h) (by rfl) ?_ (by assumption) ?_; rotate_left; · (intro w hSw; (try dsimp only at hSw); go_simp; try with_reducible rfl)
          simp only [Act.put, List.setIfInBounds_toArray, List.set_cons_zero, List.set_cons_succ]
          refine tkA 5 24 (v := ?_) rfl (by kernel_rfl) (fun _ _ _ h => h) (by rfl) ?_ (by assumption) ?_; rotate_left; · (intro w hSw; (try dsimp only at hSw); go_simp; try with_reducible rfl)
          simp only [Act.put, List.setIfInBounds_toArray, List.set_cons_zero, List.set_cons_succ]
          refine wpAnyH_ready (rs := [0, 2]) (by kernel_rfl) (by simp) ?_
          refine AllReadyH.cons rfl (fun KK hK => ?_) (AllReadyH.cons rfl (fun KK hK => ?_) AllReadyH.nil)
          · have l0 := HD1d.out.d0
            have l1 := HD1d.out.d1
            have l2 := HD1d.out.d2
            go_simp
            clear l0 l1 l2
            refine hK.out _ _ trivial (fun hHeld => ?_)
            clear hK KK
            refine wpAnyH_ready (rs := [2]) (by kernel_rfl) (by simp) ?_
            refine AllReadyH.cons rfl (fun KK hK => ?_) AllReadyH.nil
            go_simp
            go_wp2_with (first | (go_at_call 21; refine (l6Addr_any c a len cap _ HD1d.out.cur).mono ?_; rintro e w5 ⟨⟨ad, rfl⟩, hC5, hK5⟩))
            have HD5 := hidP (HD1d.out.keep hC5 hK5)
            clear hC5 hK5
            refine hK.out _ _ trivial (fun hHeld => ?_)
            clear hK KK
            refine wpAnyH_ready (rs := [4]) (by kernel_rfl) (by simp) ?_
            refine AllReadyH.cons rfl (fun KK hK => ?_) AllReadyH.nil
            go_simp
            go_wp2_with (first | (go_at_call 59; refine (l5Owner_any c a len cap _ HD5.out.cur).mono ?_; rintro e w6 ⟨⟨ow, how, rfl⟩, hC6, hK6⟩))
            have HD6 := hidP (HD5.out.keep hC6 hK6)
            clear hC6 hK6
            refine hK.out _ _ trivial (fun hHeld => ?_)
            clear hK KK
            refine wpAnyH_ready (rs := [6]) (by kernel_rfl) (by simp) ?_
            refine AllReadyH.cons rfl (fun KK hK => ?_) AllReadyH.nil
            go_simp
            go_wp2_with (first | (go_at_call 42; refine (l1Below_any c a len cap 100 _ HD6.out.cur).mono ?_; rintro e w7 ⟨⟨y, y0, y9, rfl⟩, hC7, hK7⟩))
            have HD7 := hidP (HD6.out.keep hC7 hK7)
            clear hC7 hK7
            refine hK.out _ _ trivial (fun hHeld => ?_)
            clear hK KK
            refine tkA 7 26 (v := ?_) rfl (by kernel_rfl) (fun _ _ _ h => h) (by rfl) ?_ (by assumption) ?_; rotate_left; · (intro w hSw; (try dsimp only at hSw); go_simp; try with_reducible rfl)
            simp only [Act.put, List.setIfInBounds_toArray, List.set_cons_zero, List.set_cons_succ]
            refine wpAnyH_ready (rs := [8]) (by kernel_rfl) (by simp) ?_
            refine AllReadyH.cons rfl (fun KK hK => ?_) AllReadyH.nil
            go_simp
            go_wp2_with (first | (go_at_call 8; refine (sGr12 b n d K N ls _ HN.out.1 HD7.out.own.row HN.out.2.2.2 h80 HS.out ad ow how _).mono ?_; rintro e w8 ⟨b', n', d', K', ls', v', v2', rfl, ho, hn', hs', hb8⟩))
            have HO := hidP (And.intro ho (And.intro hn' hs'))
            have HB := hidP HD7.out.sz
            have HD8 := hidP (HD7.out.below hb8)
            clear ho hn' hs' hb8
            refine hK.out _ _ trivial (fun hHeld => ?_)
            clear hK KK
            refine tkA 9 18 (v := ?_) rfl (by kernel_rfl) (fun _ _ _ h => h) (by rfl) ?_ (by assumption) ?_; rotate_left; · (intro w hSw; (try dsimp only at hSw); go_simp; try with_reducible rfl)
            simp only [Act.put, List.setIfInBounds_toArray, List.set_cons_zero, List.set_cons_succ]
            refine tkA 10 28 (v := ?_) rfl (by kernel_rfl) (fun _ _ _ h => h) (by rfl) ?_ (by assumption) ?_; rotate_left; · (intro w hSw; (try dsimp only at hSw); go_simp; try with_reducible rfl)
            simp only [Act.put, List.setIfInBounds_toArray, List.set_cons_zero, List.set_cons_succ]
            refine tkA 11 29 (v := ?_) rfl (by kernel_rfl) (fun _ _ _ h => h) (by rfl) ?_ (by assumption) ?_; rotate_left; · (intro w hSw; (try dsimp only at hSw); go_simp; try with_reducible rfl)
            simp only [Act.put, List.setIfInBounds_toArray, List.set_cons_zero, List.set_cons_succ]
            refine tkA 12 30 (v := ?_) rfl (by kernel_rfl) (fun _ _ _ h => h) (by rfl) ?_ (by assumption) ?_; rotate_left; · (intro w hSw; (try dsimp only at hSw); go_simp; try with_reducible rfl)
            simp only [Act.put, List.setIfInBounds_toArray, List.set_cons_zero, List.set_cons_succ]
            refine wpAnyH_ready (rs := [13]) (by kernel_rfl) (by simp) ?_
            refine AllReadyH.cons rfl (fun KK hK => ?_) AllReadyH.nil
            have s0 := HD8.out.d0
            have s1 := HD8.out.d1
            have s2 := HD8.out.d2
            have sF := HD8.out.dF
            go_simp
            clear s0 s1 s2 sF
            refine hK.out _ _ trivial (fun hHeld => ?_)
            clear hK KK
            refine wpAnyH_done (by kernel_rfl) ?_ _
            clear hHeld
            go_wp2_with fail
            go_roundw
            case rel => exact ⟨i - 1, b', n', d', K', N, ls', by go_num, by omega, HO.out.2.1, HD8.out.put HB.out HO.out.1 (by have := HO.out.2.1; omega) HO.out.2.2⟩
            case measure => simp [intOf]; omega
          · go_simp
            go_wp2_with (first | (go_at_call 21; refine (l6Addr_any c a len cap _ HD1d.out.cur).mono ?_; rintro e w5 ⟨⟨ad, rfl⟩, hC5, hK5⟩))
            have HD5 := hidP (HD1d.out.keep hC5 hK5)
            clear hC5 hK5
            refine hK.out _ _ trivial (fun hHeld => ?_)
            clear hK KK
            refine wpAnyH_ready (rs := [0, 4]) (by kernel_rfl) (by simp) ?_
            refine AllReadyH.cons rfl (fun KK hK => ?_) (AllReadyH.cons rfl (fun KK hK => ?_) AllReadyH.nil)
            · have l0 := HD5.out.d0
              have l1 := HD5.out.d1
              have l2 := HD5.out.d2
              go_simp
              clear l0 l1 l2
              refine hK.out _ _ trivial (fun hHeld => ?_)
              clear hK KK
              refine wpAnyH_ready (rs := [4]) (by kernel_rfl) (by simp) ?_
              refine AllReadyH.cons rfl (fun KK hK => ?_) AllReadyH.nil
              go_simp
              go_wp2_with (first | (go_at_call 59; refine (l5Owner_any c a len cap _ HD5.out.cur).mono ?_; rintro e w6 ⟨⟨ow, how, rfl⟩, hC6, hK6⟩))
              have HD6 := hidP (HD5.out.keep hC6 hK6)
              clear hC6 hK6
              refine hK.out _ _ trivial (fun hHeld => ?_)
              clear hK KK
              refine wpAnyH_ready (rs := [6]) (by kernel_rfl) (by simp) ?_
              refine AllReadyH.cons rfl (fun KK hK => ?_) AllReadyH.nil
              go_simp
              go_wp2_with (first | (go_at_call 42; refine (l1Below_any c a len cap 100 _ HD6.out.cur).mono ?_; rintro e w7 ⟨⟨y, y0, y9, rfl⟩, hC7, hK7⟩))
              have HD7 := hidP (HD6.out.keep hC7 hK7)
              clear hC7 hK7
              refine hK.out _ _ trivial (fun hHeld => ?_)
              clear hK KK
              refine tkA 7 26 (v := ?_) rfl (by kernel_rfl) (fun _ _ _ h => h) (by rfl) ?_ (by assumption) ?_; rotate_left; · (intro w hSw; (try dsimp only at hSw); go_simp; try with_reducible rfl)
              simp only [Act.put, List.setIfInBounds_toArray, List.set_cons_zero, List.set_cons_succ]
              refine wpAnyH_ready (rs := [8]) (by kernel_rfl) (by simp) ?_
              refine AllReadyH.cons rfl (fun KK hK => ?_) AllReadyH.nil
              go_simp
              go_wp2_with (first | (go_at_call 8; refine (sGr12 b n d K N ls _ HN.out.1 HD7.out.own.row HN.out.2.2.2 h80 HS.out ad ow how _).mono ?_; rintro e w8 ⟨b', n', d', K', ls', v', v2', rfl, ho, hn', hs', hb8⟩))
              have HO := hidP (And.intro ho (And.intro hn' hs'))
              have HB := hidP HD7.out.sz
              have HD8 := hidP (HD7.out.below hb8)
              clear ho hn' hs' hb8
              refine hK.out _ _ trivial (fun hHeld => ?_)
              clear hK KK
              refine tkA 9 18 (v := ?_) rfl (by kernel_rfl) (fun _ _ _ h => h) (by rfl) ?_ (by assumption) ?_; rotate_left; · (intro w hSw; (try dsimp only at hSw); go_simp; try with_reducible rfl)
              simp only [Act.put, List.setIfInBounds_toArray, List.set_cons_zero, List.set_cons_succ]
              refine tkA 10 28 (v := ?_) rfl (by kernel_rfl) (fun _ _ _ h => h) (by rfl) ?_ (by assumption) ?_; rotate_left; · (intro w hSw; (try dsimp only at hSw); go_simp; try with_reducible rfl)
              simp only [Act.put, List.setIfInBounds_toArray, List.set_cons_zero, List.set_cons_succ]
              refine tkA 11 29 (v := ?_) rfl (by kernel_rfl) (fun _ _ _ h => h) (by rfl) ?_ (by assumption) ?_; rotate_left; · (intro w hSw; (try dsimp only at hSw); go_simp; try with_reducible rfl)
              simp only [Act.put, List.setIfInBounds_toArray, List.set_cons_zero, List.set_cons_succ]
              refine tkA 12 30 (v := ?_) rfl (by kernel_rfl) (fun _ _ _ h => h) (by rfl) ?_ (by assumption) ?_; rotate_left; · (intro w hSw; (try dsimp only at hSw); go_simp; try with_reducible rfl)
              simp only [Act.put, List.setIfInBounds_toArray, List.set_cons_zero, List.set_cons_succ]
              refine wpAnyH_ready (rs := [13]) (by kernel_rfl) (by simp) ?_
              refine AllReadyH.cons rfl (fun KK hK => ?_) AllReadyH.nil
              have s0 := HD8.out.d0
              have s1 := HD8.out.d1
              have s2 := HD8.out.d2
              have sF := HD8.out.dF
              go_simp
              clear s0 s1 s2 sF
              refine hK.out _ _ trivial (fun hHeld => ?_)
              clear hK KK
              refine wpAnyH_done (by kernel_rfl) ?_ _
              clear hHeld
              go_wp2_with fail
              go_roundw
              case rel => exact ⟨i - 1, b', n', d', K', N, ls', by go_num, by omega, HO.out.2.1, HD8.out.put HB.out HO.out.1 (by have := HO.out.2.1; omega) HO.out.2.2⟩
              case measure => simp [intOf]; omega
            · go_simp
              go_wp2_with (first | (go_at_call 59; refine (l5Owner_any c a len cap _ HD5.out.cur).mono ?_; rintro e w6 ⟨⟨ow, how, rfl⟩, hC6, hK6⟩))
              have HD6 := hidP (HD5.out.keep hC6 hK6)
              clear hC6 hK6
              refine hK.out _ _ trivial (fun hHeld => ?_)
              clear hK KK
              refine wpAnyH_ready (rs := [0, 6]) (by kernel_rfl) (by simp) ?_
              refine AllReadyH.cons rfl (fun KK hK => ?_) (AllReadyH.cons rfl (fun KK hK => ?_) AllReadyH.nil)
              · have l0 := HD6.out.d0
                have l1 := HD6.out.d1
                have l2 := HD6.out.d2
                go_simp
                clear l0 l1 l2
                refine hK.out _ _ trivial (fun hHeld => ?_)
                clear hK KK
                refine wpAnyH_ready (rs := [6]) (by kernel_rfl) (by simp) ?_
                refine AllReadyH.cons rfl (fun KK hK => ?_) AllReadyH.nil
                go_simp
                go_wp2_with (first | (go_at_call 42; refine (l1Below_any c a len cap 100 _ HD6.out.cur).mono ?_; rintro e w7 ⟨⟨y, y0, y9, rfl⟩, hC7, hK7⟩))
                have HD7 := hidP (HD6.out.keep hC7 hK7)
                clear hC7 hK7
                refine hK.out _ _ trivial (fun hHeld => ?_)
                clear hK KK
                refine tkA 7 26 (v := ?_) rfl (by kernel_rfl) (fun _ _ _ h => h) (by rfl) ?_ (by assumption) ?_; rotate_left; · (intro w hSw; (try dsimp only at hSw); go_simp; try with_reducible rfl)
                simp only [Act.put, List.setIfInBounds_toArray, List.set_cons_zero, List.set_cons_succ]
                refine wpAnyH_ready (rs := [8]) (by kernel_rfl) (by simp) ?_
                refine AllReadyH.cons rfl (fun KK hK => ?_) AllReadyH.nil
                go_simp
                go_wp2_with (first | (go_at_call 8; refine (sGr12 b n d K N ls _ HN.out.1 HD7.out.own.row HN.out.2.2.2 h80 HS.out ad ow how _).mono ?_; rintro e w8 ⟨b', n', d', K', ls', v', v2', rfl, ho, hn', hs', hb8⟩))
                have HO := hidP (And.intro ho (And.intro hn' hs'))
                have HB := hidP HD7.out.sz
                have HD8 := hidP (HD7.out.below hb8)
                clear ho hn' hs' hb8
                refine hK.out _ _ trivial (fun hHeld => ?_)
                clear hK KK
                refine tkA 9 18 (v := ?_) rfl (by kernel_rfl) (fun _ _ _ h => h) (by rfl) ?_ (by assumption) ?_; rotate_left; · (intro w hSw; (try dsimp only at hSw); go_simp; try with_reducible rfl)
                simp only [Act.put, List.setIfInBounds_toArray, List.set_cons_zero, List.set_cons_succ]
                refine tkA 10 28 (v := ?_) rfl (by kernel_rfl) (fun _ _ _ h => h) (by rfl) ?_ (by assumption) ?_; rotate_left; · (intro w hSw; (try dsimp only at hSw); go_simp; try with_reducible rfl)
                simp only [Act.put, List.setIfInBounds_toArray, List.set_cons_zero, List.set_cons_succ]
                refine tkA 11 29 (v := ?_) rfl (by kernel_rfl) (fun _ _ _ h => h) (by rfl) ?_ (by assumption) ?_; rotate_left; · (intro w hSw; (try dsimp only at hSw); go_simp; try with_reducible rfl)
                simp only [Act.put, List.setIfInBounds_toArray, List.set_cons_zero, List.set_cons_succ]
                refine tkA 12 30 (v := ?_) rfl (by kernel_rfl) (fun _ _ _ h => h) (by rfl) ?_ (by assumption) ?_; rotate_left; · (intro w hSw; (try dsimp only at hSw); go_simp; try with_reducible rfl)
                simp only [Act.put, List.setIfInBounds_toArray, List.set_cons_zero, List.set_cons_succ]
                refine wpAnyH_ready (rs := [13]) (by kernel_rfl) (by simp) ?_
                refine AllReadyH.cons rfl (fun KK hK => ?_) AllReadyH.nil
                have s0 := HD8.out.d0
                have s1 := HD8.out.d1
                have s2 := HD8.out.d2
                have sF := HD8.out.dF
                go_simp
                clear s0 s1 s2 sF
                refine hK.out _ _ trivial (fun hHeld => ?_)
                clear hK KK
                refine wpAnyH_done (by kernel_rfl) ?_ _
                clear hHeld
                go_wp2_with fail
                go_roundw
                case rel => exact ⟨i - 1, b', n', d', K', N, ls', by go_num, by omega, HO.out.2.1, HD8.out.put HB.out HO.out.1 (by have := HO.out.2.1; omega) HO.out.2.2⟩
                case measure => simp [intOf]; omega
              · go_simp
                go_wp2_with (first | (go_at_call 42; refine (l1Below_any c a len cap 100 _ HD6.out.cur).mono ?_; rintro e w7 ⟨⟨y, y0, y9, rfl⟩, hC7, hK7⟩))
                have HD7 := hidP (HD6.out.keep hC7 hK7)
                clear hC7 hK7
                refine hK.out _ _ trivial (fun hHeld => ?_)
                clear hK KK
                refine tkA 7 26 (v := ?_) rfl (by kernel_rfl) (fun _ _ _ h => h) (by rfl) ?_ (by assumption) ?_; rotate_left; · (intro w hSw; (try dsimp only at hSw); go_simp; try with_reducible rfl)
                simp only [Act.put, List.setIfInBounds_toArray, List.set_cons_zero, List.set_cons_succ]
                refine wpAnyH_ready (rs := [0]) (by kernel_rfl) (by simp) ?_
                refine AllReadyH.cons rfl (fun KK hK => ?_) AllReadyH.nil
                have l0 := HD7.out.d0
                have l1 := HD7.out.d1
                have l2 := HD7.out.d2
                go_simp
                clear l0 l1 l2
                refine hK.out _ _ trivial (fun hHeld => ?_)
                clear hK KK
                refine wpAnyH_ready (rs := [8]) (by kernel_rfl) (by simp) ?_
                refine AllReadyH.cons rfl (fun KK hK => ?_) AllReadyH.nil
                go_simp
                go_wp2_with (first | (go_at_call 8; refine (sGr12 b n d K N ls _ HN.out.1 HD7.out.own.row HN.out.2.2.2 h80 HS.out ad ow how _).mono ?_; rintro e w8 ⟨b', n', d', K', ls', v', v2', rfl, ho, hn', hs', hb8⟩))
                have HO := hidP (And.intro ho (And.intro hn' hs'))
                have HB := hidP HD7.out.sz
                have HD8 := hidP (HD7.out.below hb8)
                clear ho hn' hs' hb8
                refine hK.out _ _ trivial (fun hHeld => ?_)
                clear hK KK
                refine tkA 9 18 (v := ?_) rfl (by kernel_rfl) (fun _ _ _ h => h) (by rfl) ?_ (by assumption) ?_; rotate_left; · (intro w hSw; (try dsimp only at hSw); go_simp; try with_reducible rfl)
                simp only [Act.put, List.setIfInBounds_toArray, List.set_cons_zero, List.set_cons_succ]
                refine tkA 10 28 (v := ?_) rfl (by kernel_rfl) (fun _ _ _ h => h) (by rfl) ?_ (by assumption) ?_; rotate_left; · (intro w hSw; (try dsimp only at hSw); go_simp; try with_reducible rfl)
                simp only [Act.put, List.setIfInBounds_toArray, List.set_cons_zero, List.set_cons_succ]
                refine tkA 11 29 (v := ?_) rfl (by kernel_rfl) (fun _ _ _ h => h) (by rfl) ?_ (by assumption) ?_; rotate_left; · (intro w hSw; (try dsimp only at hSw); go_simp; try with_reducible rfl)
                simp only [Act.put, List.setIfInBounds_toArray, List.set_cons_zero, List.set_cons_succ]
                refine tkA 12 30 (v := ?_) rfl (by kernel_rfl) (fun _ _ _ h => h) (by rfl) ?_ (by assumption) ?_; rotate_left; · (intro w hSw; (try dsimp only at hSw); go_simp; try with_reducible rfl)
                simp only [Act.put, List.setIfInBounds_toArray, List.set_cons_zero, List.set_cons_succ]
                refine wpAnyH_ready (rs := [13]) (by kernel_rfl) (by simp) ?_
                refine AllReadyH.cons rfl (fun KK hK => ?_) AllReadyH.nil
                have s0 := HD8.out.d0
                have s1 := HD8.out.d1
                have s2 := HD8.out.d2
                have sF := HD8.out.dF
                go_simp
                clear s0 s1 s2 sF
                refine hK.out _ _ trivial (fun hHeld => ?_)
                clear hK KK
                refine wpAnyH_done (by kernel_rfl) ?_ _
                clear hHeld
                go_wp2_with fail
                go_roundw
                case rel => exact ⟨i - 1, b', n', d', K', N, ls', by go_num, by omega, HO.out.2.1, HD8.out.put HB.out HO.out.1 (by have := HO.out.2.1; omega) HO.out.2.2⟩
                case measure => simp [intOf]; omega
        · by_cases hn0 : 0 < n
          · have gn : decide ((0 : Int) < (n : Int)) = true := decide_eq_true (by omega)
            obtain ⟨g, rfl⟩ := own_some HD1.out.own hn0
            have p0 := HD1.out.d0
            go_wp2_with fail
            clear p0
            have HD1d := hidP (HD1.out.drew)
            refine wp_region_held_drew (S := (fun X => X.cell? ⟨W.heap.size + 1, 0, none⟩ = some (.slice (some ⟨g, 0, none⟩) n d))) (by kernel_rfl) ?_ (fun hHeld => ?_)
            · try dsimp only
              exact HD1d.out.d0
            refine tkA 0 49 (v := ?_) rfl (by kernel_rfl) (fun _ _ _ h => h) (by rfl) ?_ (by assumption) ?_; rotate_left; · (intro w hSw; (try dsimp only at hSw); go_simp; try with_reducible rfl)
            simp only [Act.put, List.setIfInBounds_toArray, List.set_cons_zero, List.set_cons_succ]
            refine tkA 1 50 (v := ?_) rfl (by kernel_rfl) (fun _ _ _ h => h) (by rfl) ?_ (by assumption) ?_; rotate_left; · (intro w hSw; (try dsimp only at hSw); go_simp; try with_reducible rfl)
            simp only [Act.put, List.setIfInBounds_toArray, List.set_cons_zero, List.set_cons_succ]
            refine tkA 2 51 (v := ?_) rfl (by kernel_rfl) (fun _ _ _ h => h) (by rfl) ?_ (by assumption) ?_; rotate_left; · (intro w hSw; (try dsimp only at hSw); go_simp; try with_reducible rfl)
            simp only [Act.put, List.setIfInBounds_toArray, List.set_cons_zero, List.set_cons_succ]
            refine tkA 3 52 (v := ?_) rfl (by kernel_rfl) (fun _ _ _ h => h) (by rfl) ?_ (by assumption) ?_; rotate_left; · (intro w hSw; (try dsimp only at hSw); go_simp; try with_reducible rfl)
            simp only [Act.put, List.setIfInBounds_toArray, List.set_cons_zero, List.set_cons_succ]
            refine tkA 4 53 (v := ?_) rfl (by kernel_rfl) (fun _ _ _ h => h) (by rfl) ?_ (by assumption) ?_; rotate_left; · (intro w hSw; (try dsimp only at hSw); go_simp; try with_reducible rfl)
            simp only [Act.put, List.setIfInBounds_toArray, List.set_cons_zero, List.set_cons_succ]
            refine tkA 5 54 (v := ?_) rfl (by kernel_rfl) (fun _ _ _ h => h) (by rfl) ?_ (by assumption) ?_; rotate_left; · (intro w hSw; (try dsimp only at hSw); go_simp; try with_reducible rfl)
            simp only [Act.put, List.setIfInBounds_toArray, List.set_cons_zero, List.set_cons_succ]
            refine wpAnyH_ready (rs := [6, 9]) (by kernel_rfl) (by simp) ?_
            refine AllReadyH.cons rfl (fun KK hK => ?_) (AllReadyH.cons rfl (fun KK hK => ?_) AllReadyH.nil)
            · go_simp
              go_wp2_with (first | (go_at_call 42; refine (l1Below_any c a len cap n _ HD1d.out.cur).mono ?_; rintro e w4 ⟨⟨y, y0, y9, rfl⟩, hC4, hK4⟩))
              have y9' := y9 (by omega)
              obtain ⟨j, rfl⟩ : ∃ j : Nat, y = (j : Int) := ⟨y.toNat, by omega⟩
              have hjn : j < n := by omega
              have j0 : (0 : Int) ≤ (j : Int) := by omega
              have j1 : (j : Int) < (n : Int) := by omega
              have HD4 := hidP (HD1d.out.keep hC4 hK4)
              clear hC4 hK4 y9 y9' y0
              refine hK.out _ _ ?_ (fun hHeld => ?_)
              · try dsimp only
                exact HD4.out.d0
              clear hK KK
              refine tkA 7 56 (v := ?_) rfl (by kernel_rfl) (fun _ _ _ h => h) (by rfl) ?_ (by assumption) ?_; rotate_left; · (intro w hSw; (try dsimp only at hSw); go_simp; try with_reducible rfl)
              simp only [Act.put, List.setIfInBounds_toArray, List.set_cons_zero, List.set_cons_succ]
              refine wpAnyH_ready (rs := [8, 9]) (by kernel_rfl) (by simp) ?_
              refine AllReadyH.cons rfl (fun KK hK => ?_) (AllReadyH.cons rfl (fun KK hK => ?_) AllReadyH.nil)
              · obtain ⟨q, hgl, hq, c0, c1, c2, c3, c4, c5⟩ := rowLs0 HD4.out.own j (by rw [← HN.out.1]; exact hjn)
                go_simp
                clear c0 c1 c2 c3 c4 c5 hq
                refine hK.out _ _ ?_ (fun hHeld => ?_)
                · try dsimp only
                  exact HD4.out.d0
                clear hK KK
                refine wpAnyH_ready (rs := [9]) (by kernel_rfl) (by simp) ?_
                refine AllReadyH.cons rfl (fun KK hK => ?_) AllReadyH.nil
                go_simp
                have HZ3 := hidP (BxL.mk' W w4 HD4.out.sz 35)
                have zb := alloc_below w4 (.cells #[.bool false, .int .i64 0, .int .i64 0, .string ⟨#[]⟩, .int .i64 0, .int .i64 0] 35)
                have HDa := hidP (HD4.out.below zb)
                have HNx : Hid (∀ k, (Value.slice (some ⟨g, 0, none⟩) n d).ownBlock = some k → k ≠ w4.heap.size) := hidP (fun k hk => Nat.ne_of_lt (OwnG.lt HD4.out.own k hk).2)
                clear zb
                generalize w4.alloc (.cells #[.bool false, .int .i64 0, .int .i64 0, .string ⟨#[]⟩, .int .i64 0, .int .i64 0] 35) = w3 at *
                refine hK.out _ _ ?_ (fun hHeld => ?_)
                · try dsimp only
                  exact HDa.out.d0
                clear hK KK
                refine wpAnyH_ready (rs := [10]) (by kernel_rfl) (by simp) ?_
                refine AllReadyH.cons rfl (fun KK hK => ?_) AllReadyH.nil
                have HX := hidP (HDa.out.box HZ3.out HNx.out q)
                have s0 := HZ3.out.z0
                have s1 := HZ3.out.z1
                have s2 := HZ3.out.z2
                have s3 := HZ3.out.z3
                have s4 := HZ3.out.z4
                have s5 := HZ3.out.z5
                have sF := HZ3.out.zF
                go_simp
                clear s0 s1 s2 s3 s4 s5 sF
                refine hK.out _ _ ?_ (fun hHeld => ?_)
                · try dsimp only
                  exact HX.out.1.d0
                clear hK KK
                refine wpAnyH_done (by kernel_rfl) ?_ _
                clear hHeld
                obtain ⟨hA, b0, b1, b2, b4, bl⟩ := HX.out
                have HA := hidP hA
                clear HX hA
                generalize ((((((w3.setCell ⟨w4.heap.size, 0, none⟩ (.bool q.a.s)).setCell ⟨w4.heap.size, 1, none⟩ (.int .i64 q.a.H.toInt)).setCell ⟨w4.heap.size, 2, none⟩ (.int .i64 q.a.L.toInt)).setCell ⟨w4.heap.size, 3, none⟩ (.string q.t)).setCell ⟨w4.heap.size, 4, none⟩ (.int .i64 q.k)).setCell ⟨w4.heap.size, 5, none⟩ (.int .i64 q.u)) = Y at *
                obtain ⟨bx, hbx⟩ : ∃ x, x = w4.heap.size := ⟨_, rfl⟩
                rw [← hbx] at b0 b1 b2 b4 bl ⊢
                clear hbx
                have p0 := HA.out.d0
                have p1 := HA.out.d1
                have p2 := HA.out.d2
                go_wp2_with fail
                refine (sRel12 (some ⟨g, 0, none⟩) n d K N ls _ HN.out.1 HA.out.own.row HN.out.2.2.2 h80 HS.out (by have := HN.out; omega) HN.out.2.2.1 (fun _ => ⟨g, rfl⟩) q.a _).mono ?_
                rintro e w9 ⟨b', n', d', ls', v', rfl, ho, hn', hs', hb9⟩
                have HO := hidP (And.intro ho (And.intro hn' hs'))
                have HB := hidP HA.out.sz
                have HD9 := hidP (HA.out.below hb9)
                clear ho hn' hs' hb9 p0 p1 p2 b0 b1 b2 b4 bl
                have s0 := HD9.out.d0
                have s1 := HD9.out.d1
                have s2 := HD9.out.d2
                have sF := HD9.out.dF
                go_wp2_with fail
                go_roundw
                case rel => exact ⟨i - 1, b', n', d', K, N, ls', by go_num, by omega, HO.out.2.1, HD9.out.put HB.out HO.out.1 (by have := HO.out.2.1; omega) HO.out.2.2⟩
                case measure => simp [intOf]; omega
              · go_simp
                have HZ3 := hidP (BxL.mk' W w4 HD4.out.sz 35)
                have zb := alloc_below w4 (.cells #[.bool false, .int .i64 0, .int .i64 0, .string ⟨#[]⟩, .int .i64 0, .int .i64 0] 35)
                have HDa := hidP (HD4.out.below zb)
                have HNx : Hid (∀ k, (Value.slice (some ⟨g, 0, none⟩) n d).ownBlock = some k → k ≠ w4.heap.size) := hidP (fun k hk => Nat.ne_of_lt (OwnG.lt HD4.out.own k hk).2)
                clear zb
                generalize w4.alloc (.cells #[.bool false, .int .i64 0, .int .i64 0, .string ⟨#[]⟩, .int .i64 0, .int .i64 0] 35) = w3 at *
                refine hK.out _ _ ?_ (fun hHeld => ?_)
                · try dsimp only
                  exact HDa.out.d0
                clear hK KK
                refine wpAnyH_ready (rs := [8]) (by kernel_rfl) (by simp) ?_
                refine AllReadyH.cons rfl (fun KK hK => ?_) AllReadyH.nil
                obtain ⟨q, hgl, hq, c0, c1, c2, c3, c4, c5⟩ := rowLs0 HDa.out.own j (by rw [← HN.out.1]; exact hjn)
                go_simp
                clear c0 c1 c2 c3 c4 c5 hq
                refine hK.out _ _ ?_ (fun hHeld => ?_)
                · try dsimp only
                  exact HDa.out.d0
                clear hK KK
                refine wpAnyH_ready (rs := [10]) (by kernel_rfl) (by simp) ?_
                refine AllReadyH.cons rfl (fun KK hK => ?_) AllReadyH.nil
                have HX := hidP (HDa.out.box HZ3.out HNx.out q)
                have s0 := HZ3.out.z0
                have s1 := HZ3.out.z1
                have s2 := HZ3.out.z2
                have s3 := HZ3.out.z3
                have s4 := HZ3.out.z4
                have s5 := HZ3.out.z5
                have sF := HZ3.out.zF
                go_simp
                clear s0 s1 s2 s3 s4 s5 sF
                refine hK.out _ _ ?_ (fun hHeld => ?_)
                · try dsimp only
                  exact HX.out.1.d0
                clear hK KK
                refine wpAnyH_done (by kernel_rfl) ?_ _
                clear hHeld
                obtain ⟨hA, b0, b1, b2, b4, bl⟩ := HX.out
                have HA := hidP hA
                clear HX hA
                generalize ((((((w3.setCell ⟨w4.heap.size, 0, none⟩ (.bool q.a.s)).setCell ⟨w4.heap.size, 1, none⟩ (.int .i64 q.a.H.toInt)).setCell ⟨w4.heap.size, 2, none⟩ (.int .i64 q.a.L.toInt)).setCell ⟨w4.heap.size, 3, none⟩ (.string q.t)).setCell ⟨w4.heap.size, 4, none⟩ (.int .i64 q.k)).setCell ⟨w4.heap.size, 5, none⟩ (.int .i64 q.u)) = Y at *
                obtain ⟨bx, hbx⟩ : ∃ x, x = w4.heap.size := ⟨_, rfl⟩
                rw [← hbx] at b0 b1 b2 b4 bl ⊢
                clear hbx
                have p0 := HA.out.d0
                have p1 := HA.out.d1
                have p2 := HA.out.d2
                go_wp2_with fail
                refine (sRel12 (some ⟨g, 0, none⟩) n d K N ls _ HN.out.1 HA.out.own.row HN.out.2.2.2 h80 HS.out (by have := HN.out; omega) HN.out.2.2.1 (fun _ => ⟨g, rfl⟩) q.a _).mono ?_
                rintro e w9 ⟨b', n', d', ls', v', rfl, ho, hn', hs', hb9⟩
                have HO := hidP (And.intro ho (And.intro hn' hs'))
                have HB := hidP HA.out.sz
                have HD9 := hidP (HA.out.below hb9)
                clear ho hn' hs' hb9 p0 p1 p2 b0 b1 b2 b4 bl
                have s0 := HD9.out.d0
                have s1 := HD9.out.d1
                have s2 := HD9.out.d2
                have sF := HD9.out.dF
                go_wp2_with fail
                go_roundw
                case rel => exact ⟨i - 1, b', n', d', K, N, ls', by go_num, by omega, HO.out.2.1, HD9.out.put HB.out HO.out.1 (by have := HO.out.2.1; omega) HO.out.2.2⟩
                case measure => simp [intOf]; omega
            · go_simp
              have HZ3 := hidP ((BxL.mk' W w1 HD1.out.sz 35).drew)
              have zb := (alloc_below w1 (.cells #[.bool false, .int .i64 0, .int .i64 0, .string ⟨#[]⟩, .int .i64 0, .int .i64 0] 35)).drew
              have HDa := hidP (HD1.out.below zb)
              have HNx : Hid (∀ k, (Value.slice (some ⟨g, 0, none⟩) n d).ownBlock = some k → k ≠ w1.heap.size) := hidP (fun k hk => Nat.ne_of_lt (OwnG.lt HD1.out.own k hk).2)
              clear zb
              generalize (w1.alloc (.cells #[.bool false, .int .i64 0, .int .i64 0, .string ⟨#[]⟩, .int .i64 0, .int .i64 0] 35)).drew = w3 at *
              refine hK.out _ _ ?_ (fun hHeld => ?_)
              · try dsimp only
                exact HDa.out.d0
              clear hK KK
              refine wpAnyH_ready (rs := [6]) (by kernel_rfl) (by simp) ?_
              refine AllReadyH.cons rfl (fun KK hK => ?_) AllReadyH.nil
              go_simp
              go_wp2_with (first | (go_at_call 42; refine (l1Below_any c a len cap n _ HDa.out.cur).mono ?_; rintro e w4 ⟨⟨y, y0, y9, rfl⟩, hC4, hK4⟩))
              have y9' := y9 (by omega)
              obtain ⟨j, rfl⟩ : ∃ j : Nat, y = (j : Int) := ⟨y.toNat, by omega⟩
              have hjn : j < n := by omega
              have j0 : (0 : Int) ≤ (j : Int) := by omega
              have j1 : (j : Int) < (n : Int) := by omega
              have HD4 := hidP (HDa.out.keep hC4 hK4)
              have HZ4 := hidP (HZ3.out.keep hcl hK4)
              clear hC4 hK4 y9 y9' y0
              refine hK.out _ _ ?_ (fun hHeld => ?_)
              · try dsimp only
                exact HD4.out.d0
              clear hK KK
              refine tkA 7 56 (v := ?_) rfl (by kernel_rfl) (fun _ _ _ h => h) (by rfl) ?_ (by assumption) ?_; rotate_left; · (intro w hSw; (try dsimp only at hSw); go_simp; try with_reducible rfl)
              simp only [Act.put, List.setIfInBounds_toArray, List.set_cons_zero, List.set_cons_succ]
              refine wpAnyH_ready (rs := [8]) (by kernel_rfl) (by simp) ?_
              refine AllReadyH.cons rfl (fun KK hK => ?_) AllReadyH.nil
              obtain ⟨q, hgl, hq, c0, c1, c2, c3, c4, c5⟩ := rowLs0 HD4.out.own j (by rw [← HN.out.1]; exact hjn)
              go_simp
              clear c0 c1 c2 c3 c4 c5 hq
              refine hK.out _ _ ?_ (fun hHeld => ?_)
              · try dsimp only
                exact HD4.out.d0
              clear hK KK
              refine wpAnyH_ready (rs := [10]) (by kernel_rfl) (by simp) ?_
              refine AllReadyH.cons rfl (fun KK hK => ?_) AllReadyH.nil
              have HX := hidP (HD4.out.box HZ4.out HNx.out q)
              have s0 := HZ4.out.z0
              have s1 := HZ4.out.z1
              have s2 := HZ4.out.z2
              have s3 := HZ4.out.z3
              have s4 := HZ4.out.z4
              have s5 := HZ4.out.z5
              have sF := HZ4.out.zF
              go_simp
              clear s0 s1 s2 s3 s4 s5 sF
              refine hK.out _ _ ?_ (fun hHeld => ?_)
              · try dsimp only
                exact HX.out.1.d0
              clear hK KK
              refine wpAnyH_done (by kernel_rfl) ?_ _
              clear hHeld
              obtain ⟨hA, b0, b1, b2, b4, bl⟩ := HX.out
              have HA := hidP hA
              clear HX hA
              generalize ((((((w4.setCell ⟨w1.heap.size, 0, none⟩ (.bool q.a.s)).setCell ⟨w1.heap.size, 1, none⟩ (.int .i64 q.a.H.toInt)).setCell ⟨w1.heap.size, 2, none⟩ (.int .i64 q.a.L.toInt)).setCell ⟨w1.heap.size, 3, none⟩ (.string q.t)).setCell ⟨w1.heap.size, 4, none⟩ (.int .i64 q.k)).setCell ⟨w1.heap.size, 5, none⟩ (.int .i64 q.u)) = Y at *
              obtain ⟨bx, hbx⟩ : ∃ x, x = w1.heap.size := ⟨_, rfl⟩
              rw [← hbx] at b0 b1 b2 b4 bl ⊢
              clear hbx
              have p0 := HA.out.d0
              have p1 := HA.out.d1
              have p2 := HA.out.d2
              go_wp2_with fail
              refine (sRel12 (some ⟨g, 0, none⟩) n d K N ls _ HN.out.1 HA.out.own.row HN.out.2.2.2 h80 HS.out (by have := HN.out; omega) HN.out.2.2.1 (fun _ => ⟨g, rfl⟩) q.a _).mono ?_
              rintro e w9 ⟨b', n', d', ls', v', rfl, ho, hn', hs', hb9⟩
              have HO := hidP (And.intro ho (And.intro hn' hs'))
              have HB := hidP HA.out.sz
              have HD9 := hidP (HA.out.below hb9)
              clear ho hn' hs' hb9 p0 p1 p2 b0 b1 b2 b4 bl
              have s0 := HD9.out.d0
              have s1 := HD9.out.d1
              have s2 := HD9.out.d2
              have sF := HD9.out.dF
              go_wp2_with fail
              go_roundw
              case rel => exact ⟨i - 1, b', n', d', K, N, ls', by go_num, by omega, HO.out.2.1, HD9.out.put HB.out HO.out.1 (by have := HO.out.2.1; omega) HO.out.2.2⟩
              case measure => simp [intOf]; omega
          · have gn : decide ((0 : Int) < (n : Int)) = false := decide_eq_false (by omega)
            have p0 := HD1.out.d0
            go_wp2_with fail
            go_roundw
            case rel => exact ⟨i - 1, b, n, d, K, N, ls, by go_num, by omega, h80, HD1.out⟩
            case measure => simp [intOf]; omega
      · go_wp2_with fail
        have HD1d := hidP (HD1.out.drew)
        refine wp_region_held_drew (S := fun _ => True) (by kernel_rfl) trivial (fun hHeld => ?_)
        refine tkA 1 35 (v := ?_) rfl (by kernel_rfl) (fun _ _ _ h => h) (by rfl) ?_ (by assumption) ?_; rotate_left; · (intro w hSw; (try dsimp only at hSw); go_simp; try with_reducible rfl)
        simp only [Act.put, List.setIfInBounds_toArray, List.set_cons_zero, List.set_cons_succ]
        refine tkA 3 37 (v := ?_) rfl (by kernel_rfl) (fun _ _ _ h => h) (by rfl) ?_ (by assumption) ?_; rotate_left; · (intro w hSw; (try dsimp only at hSw); go_simp; try with_reducible rfl)
        simp only [Act.put, List.setIfInBounds_toArray, List.set_cons_zero, List.set_cons_succ]
        refine wpAnyH_ready (rs := [0, 2, 4]) (by kernel_rfl) (by simp) ?_
        refine AllReadyH.cons rfl (fun KK hK => ?_) (AllReadyH.cons rfl (fun KK hK => ?_) (AllReadyH.cons rfl (fun KK hK => ?_) AllReadyH.nil))
        · have l0 := HD1d.out.d0
          have l1 := HD1d.out.d1
          have l2 := HD1d.out.d2
          go_simp
          clear l0 l1 l2
          refine hK.out _ _ trivial (fun hHeld => ?_)
          clear hK KK
          refine wpAnyH_ready (rs := [2, 4]) (by kernel_rfl) (by simp) ?_
          refine AllReadyH.cons rfl (fun KK hK => ?_) (AllReadyH.cons rfl (fun KK hK => ?_) AllReadyH.nil)
          · have l2 := HD1d.out.d2
            go_simp
            clear l2
            refine hK.out _ _ trivial (fun hHeld => ?_)
            clear hK KK
            refine wpAnyH_ready (rs := [4]) (by kernel_rfl) (by simp) ?_
            refine AllReadyH.cons rfl (fun KK hK => ?_) AllReadyH.nil
            go_simp
            go_wp2_with (first | (go_at_call 42; refine (l1Below_any c a len cap 60 _ HD1d.out.cur).mono ?_; rintro e w5 ⟨⟨y, y0, y9, rfl⟩, hC5, hK5⟩))
            have HD5 := hidP (HD1d.out.keep hC5 hK5)
            clear hC5 hK5
            refine hK.out _ _ trivial (fun hHeld => ?_)
            clear hK KK
            refine tkA 5 39 (v := ?_) rfl (by kernel_rfl) (fun _ _ _ h => h) (by rfl) ?_ (by assumption) ?_; rotate_left; · (intro w hSw; (try dsimp only at hSw); go_simp; try with_reducible rfl)
            simp only [Act.put, List.setIfInBounds_toArray, List.set_cons_zero, List.set_cons_succ]
            refine wpAnyH_ready (rs := [6]) (by kernel_rfl) (by simp) ?_
            refine AllReadyH.cons rfl (fun KK hK => ?_) AllReadyH.nil
            go_simp
            go_wp2_with (first | (go_at_call 57; refine (sAdv12 b n d K N ls _ HN.out.1 HD5.out.own.row HN.out.2.2.2 h80 HS.out _).mono ?_; rintro e w6 ⟨b', n', d', N', ls', v', rfl, ho, hn', hs', hb6⟩))
            have HO := hidP (And.intro ho (And.intro hn' hs'))
            have HB := hidP HD5.out.sz
            have HD6 := hidP (HD5.out.below hb6)
            clear ho hn' hs' hb6
            refine hK.out _ _ trivial (fun hHeld => ?_)
            clear hK KK
            refine tkA 7 33 (v := ?_) rfl (by kernel_rfl) (fun _ _ _ h => h) (by rfl) ?_ (by assumption) ?_; rotate_left; · (intro w hSw; (try dsimp only at hSw); go_simp; try with_reducible rfl)
            simp only [Act.put, List.setIfInBounds_toArray, List.set_cons_zero, List.set_cons_succ]
            refine tkA 8 41 (v := ?_) rfl (by kernel_rfl) (fun _ _ _ h => h) (by rfl) ?_ (by assumption) ?_; rotate_left; · (intro w hSw; (try dsimp only at hSw); go_simp; try with_reducible rfl)
            simp only [Act.put, List.setIfInBounds_toArray, List.set_cons_zero, List.set_cons_succ]
            refine tkA 9 42 (v := ?_) rfl (by kernel_rfl) (fun _ _ _ h => h) (by rfl) ?_ (by assumption) ?_; rotate_left; · (intro w hSw; (try dsimp only at hSw); go_simp; try with_reducible rfl)
            simp only [Act.put, List.setIfInBounds_toArray, List.set_cons_zero, List.set_cons_succ]
            refine wpAnyH_ready (rs := [10]) (by kernel_rfl) (by simp) ?_
            refine AllReadyH.cons rfl (fun KK hK => ?_) AllReadyH.nil
            have s0 := HD6.out.d0
            have s1 := HD6.out.d1
            have s2 := HD6.out.d2
            have sF := HD6.out.dF
            go_simp
            clear s0 s1 s2 sF
            refine hK.out _ _ trivial (fun hHeld => ?_)
            clear hK KK
            refine wpAnyH_done (by kernel_rfl) ?_ _
            clear hHeld
            go_wp2_with fail
            go_roundw
            case rel => exact ⟨i - 1, b', n', d', K, N', ls', by go_num, by omega, HO.out.2.1, HD6.out.put HB.out HO.out.1 (by have := HO.out.2.1; omega) HO.out.2.2⟩
            case measure => simp [intOf]; omega
          · go_simp
            go_wp2_with (first | (go_at_call 42; refine (l1Below_any c a len cap 60 _ HD1d.out.cur).mono ?_; rintro e w5 ⟨⟨y, y0, y9, rfl⟩, hC5, hK5⟩))
            have HD5 := hidP (HD1d.out.keep hC5 hK5)
            clear hC5 hK5
            refine hK.out _ _ trivial (fun hHeld => ?_)
            clear hK KK
            refine wpAnyH_ready (rs := [2]) (by kernel_rfl) (by simp) ?_
            refine AllReadyH.cons rfl (fun KK hK => ?_) AllReadyH.nil
            have l2 := HD5.out.d2
            go_simp
            clear l2
            refine hK.out _ _ trivial (fun hHeld => ?_)
            clear hK KK
            refine tkA 5 39 (v := ?_) rfl (by kernel_rfl) (fun _ _ _ h => h) (by rfl) ?_ (by assumption) ?_; rotate_left; · (intro w hSw; (try dsimp only at hSw); go_simp; try with_reducible rfl)
            simp only [Act.put, List.setIfInBounds_toArray, List.set_cons_zero, List.set_cons_succ]
            refine wpAnyH_ready (rs := [6]) (by kernel_rfl) (by simp) ?_
            refine AllReadyH.cons rfl (fun KK hK => ?_) AllReadyH.nil
            go_simp
            go_wp2_with (first | (go_at_call 57; refine (sAdv12 b n d K N ls _ HN.out.1 HD5.out.own.row HN.out.2.2.2 h80 HS.out _).mono ?_; rintro e w6 ⟨b', n', d', N', ls', v', rfl, ho, hn', hs', hb6⟩))
            have HO := hidP (And.intro ho (And.intro hn' hs'))
            have HB := hidP HD5.out.sz
            have HD6 := hidP (HD5.out.below hb6)
            clear ho hn' hs' hb6
            refine hK.out _ _ trivial (fun hHeld => ?_)
            clear hK KK
            refine tkA 7 33 (v := ?_) rfl (by kernel_rfl) (fun _ _ _ h => h) (by rfl) ?_ (by assumption) ?_; rotate_left; · (intro w hSw; (try dsimp only at hSw); go_simp; try with_reducible rfl)
            simp only [Act.put, List.setIfInBounds_toArray, List.set_cons_zero, List.set_cons_succ]
            refine tkA 8 41 (v := ?_) rfl (by kernel_rfl) (fun _ _ _ h => h) (by rfl) ?_ (by assumption) ?_; rotate_left; · (intro w hSw; (try dsimp only at hSw); go_simp; try with_reducible rfl)
            simp only [Act.put, List.setIfInBounds_toArray, List.set_cons_zero, List.set_cons_succ]
            refine tkA 9 42 (v := ?_) rfl (by kernel_rfl) (fun _ _ _ h => h) (by rfl) ?_ (by assumption) ?_; rotate_left; · (intro w hSw; (try dsimp only at hSw); go_simp; try with_reducible rfl)
            simp only [Act.put, List.setIfInBounds_toArray, List.set_cons_zero, List.set_cons_succ]
            refine wpAnyH_ready (rs := [10]) (by kernel_rfl) (by simp) ?_
            refine AllReadyH.cons rfl (fun KK hK => ?_) AllReadyH.nil
            have s0 := HD6.out.d0
            have s1 := HD6.out.d1
            have s2 := HD6.out.d2
            have sF := HD6.out.dF
            go_simp
            clear s0 s1 s2 sF
            refine hK.out _ _ trivial (fun hHeld => ?_)
            clear hK KK
            refine wpAnyH_done (by kernel_rfl) ?_ _
            clear hHeld
            go_wp2_with fail
            go_roundw
            case rel => exact ⟨i - 1, b', n', d', K, N', ls', by go_num, by omega, HO.out.2.1, HD6.out.put HB.out HO.out.1 (by have := HO.out.2.1; omega) HO.out.2.2⟩
            case measure => simp [intOf]; omega
        · have l2 := HD1d.out.d2
          go_simp
          clear l2
          refine hK.out _ _ trivial (fun hHeld => ?_)
          clear hK KK
          refine wpAnyH_ready (rs := [0, 4]) (by kernel_rfl) (by simp) ?_
          refine AllReadyH.cons rfl (fun KK hK => ?_) (AllReadyH.cons rfl (fun KK hK => ?_) AllReadyH.nil)
          · have l0 := HD1d.out.d0
            have l1 := HD1d.out.d1
            have l2 := HD1d.out.d2
            go_simp
            clear l0 l1 l2
            refine hK.out _ _ trivial (fun hHeld => ?_)
            clear hK KK
            refine wpAnyH_ready (rs := [4]) (by kernel_rfl) (by simp) ?_
            refine AllReadyH.cons rfl (fun KK hK => ?_) AllReadyH.nil
            go_simp
            go_wp2_with (first | (go_at_call 42; refine (l1Below_any c a len cap 60 _ HD1d.out.cur).mono ?_; rintro e w5 ⟨⟨y, y0, y9, rfl⟩, hC5, hK5⟩))
            have HD5 := hidP (HD1d.out.keep hC5 hK5)
            clear hC5 hK5
            refine hK.out _ _ trivial (fun hHeld => ?_)
            clear hK KK
            refine tkA 5 39 (v := ?_) rfl (by kernel_rfl) (fun _ _ _ h => h) (by rfl) ?_ (by assumption) ?_; rotate_left; · (intro w hSw; (try dsimp only at hSw); go_simp; try with_reducible rfl)
            simp only [Act.put, List.setIfInBounds_toArray, List.set_cons_zero, List.set_cons_succ]
            refine wpAnyH_ready (rs := [6]) (by kernel_rfl) (by simp) ?_
            refine AllReadyH.cons rfl (fun KK hK => ?_) AllReadyH.nil
            go_simp
            go_wp2_with (first | (go_at_call 57; refine (sAdv12 b n d K N ls _ HN.out.1 HD5.out.own.row HN.out.2.2.2 h80 HS.out _).mono ?_; rintro e w6 ⟨b', n', d', N', ls', v', rfl, ho, hn', hs', hb6⟩))
            have HO := hidP (And.intro ho (And.intro hn' hs'))
            have HB := hidP HD5.out.sz
            have HD6 := hidP (HD5.out.below hb6)
            clear ho hn' hs' hb6
            refine hK.out _ _ trivial (fun hHeld => ?_)
            clear hK KK
            refine tkA 7 33 (v := ?_) rfl (by kernel_rfl) (fun _ _ _ h => h) (by rfl) ?_ (by assumption) ?_; rotate_left; · (intro w hSw; (try dsimp only at hSw); go_simp; try with_reducible rfl)
            simp only [Act.put, List.setIfInBounds_toArray, List.set_cons_zero, List.set_cons_succ]
            refine tkA 8 41 (v := ?_) rfl (by kernel_rfl) (fun _ _ _ h => h) (by rfl) ?_ (by assumption) ?_; rotate_left; · (intro w hSw; (try dsimp only at hSw); go_simp; try with_reducible rfl)
            simp only [Act.put, List.setIfInBounds_toArray, List.set_cons_zero, List.set_cons_succ]
            refine tkA 9 42 (v := ?_) rfl (by kernel_rfl) (fun _ _ _ h => h) (by rfl) ?_ (by assumption) ?_; rotate_left; · (intro w hSw; (try dsimp only at hSw); go_simp; try with_reducible rfl)
            simp only [Act.put, List.setIfInBounds_toArray, List.set_cons_zero, List.set_cons_succ]
            refine wpAnyH_ready (rs := [10]) (by kernel_rfl) (by simp) ?_
            refine AllReadyH.cons rfl (fun KK hK => ?_) AllReadyH.nil
            have s0 := HD6.out.d0
            have s1 := HD6.out.d1
            have s2 := HD6.out.d2
            have sF := HD6.out.dF
            go_simp
            clear s0 s1 s2 sF
            refine hK.out _ _ trivial (fun hHeld => ?_)
            clear hK KK
            refine wpAnyH_done (by kernel_rfl) ?_ _
            clear hHeld
            go_wp2_with fail
            go_roundw
            case rel => exact ⟨i - 1, b', n', d', K, N', ls', by go_num, by omega, HO.out.2.1, HD6.out.put HB.out HO.out.1 (by have := HO.out.2.1; omega) HO.out.2.2⟩
            case measure => simp [intOf]; omega
          · go_simp
            go_wp2_with (first | (go_at_call 42; refine (l1Below_any c a len cap 60 _ HD1d.out.cur).mono ?_; rintro e w5 ⟨⟨y, y0, y9, rfl⟩, hC5, hK5⟩))
            have HD5 := hidP (HD1d.out.keep hC5 hK5)
            clear hC5 hK5
            refine hK.out _ _ trivial (fun hHeld => ?_)
            clear hK KK
            refine tkA 5 39 (v := ?_) rfl (by kernel_rfl) (fun _ _ _ h => h) (by rfl) ?_ (by assumption) ?_; rotate_left; · (intro w hSw; (try dsimp only at hSw); go_simp; try with_reducible rfl)
            simp only [Act.put, List.setIfInBounds_toArray, List.set_cons_zero, List.set_cons_succ]
            refine wpAnyH_ready (rs := [0]) (by kernel_rfl) (by simp) ?_
            refine AllReadyH.cons rfl (fun KK hK => ?_) AllReadyH.nil
            have l0 := HD5.out.d0
            have l1 := HD5.out.d1
            have l2 := HD5.out.d2
            go_simp
            clear l0 l1 l2
            refine hK.out _ _ trivial (fun hHeld => ?_)
            clear hK KK
            refine wpAnyH_ready (rs := [6]) (by kernel_rfl) (by simp) ?_
            refine AllReadyH.cons rfl (fun KK hK => ?_) AllReadyH.nil
            go_simp
            go_wp2_with (first | (go_at_call 57; refine (sAdv12 b n d K N ls _ HN.out.1 HD5.out.own.row HN.out.2.2.2 h80 HS.out _).mono ?_; rintro e w6 ⟨b', n', d', N', ls', v', rfl, ho, hn', hs', hb6⟩))
            have HO := hidP (And.intro ho (And.intro hn' hs'))
            have HB := hidP HD5.out.sz
            have HD6 := hidP (HD5.out.below hb6)
            clear ho hn' hs' hb6
            refine hK.out _ _ trivial (fun hHeld => ?_)
            clear hK KK
            refine tkA 7 33 (v := ?_) rfl (by kernel_rfl) (fun _ _ _ h => h) (by rfl) ?_ (by assumption) ?_; rotate_left; · (intro w hSw; (try dsimp only at hSw); go_simp; try with_reducible rfl)
            simp only [Act.put, List.setIfInBounds_toArray, List.set_cons_zero, List.set_cons_succ]
            refine tkA 8 41 (v := ?_) rfl (by kernel_rfl) (fun _ _ _ h => h) (by rfl) ?_ (by assumption) ?_; rotate_left; · (intro w hSw; (try dsimp only at hSw); go_simp; try with_reducible rfl)
            simp only [Act.put, List.setIfInBounds_toArray, List.set_cons_zero, List.set_cons_succ]
            refine tkA 9 42 (v := ?_) rfl (by kernel_rfl) (fun _ _ _ h => h) (by rfl) ?_ (by assumption) ?_; rotate_left; · (intro w hSw; (try dsimp only at hSw); go_simp; try with_reducible rfl)
            simp only [Act.put, List.setIfInBounds_toArray, List.set_cons_zero, List.set_cons_succ]
            refine wpAnyH_ready (rs := [10]) (by kernel_rfl) (by simp) ?_
            refine AllReadyH.cons rfl (fun KK hK => ?_) AllReadyH.nil
            have s0 := HD6.out.d0
            have s1 := HD6.out.d1
            have s2 := HD6.out.d2
            have sF := HD6.out.dF
            go_simp
            clear s0 s1 s2 sF
            refine hK.out _ _ trivial (fun hHeld => ?_)
            clear hK KK
            refine wpAnyH_done (by kernel_rfl) ?_ _
            clear hHeld
            go_wp2_with fail
            go_roundw
            case rel => exact ⟨i - 1, b', n', d', K, N', ls', by go_num, by omega, HO.out.2.1, HD6.out.put HB.out HO.out.1 (by have := HO.out.2.1; omega) HO.out.2.2⟩
            case measure => simp [intOf]; omega
        · go_simp
          go_wp2_with (first | (go_at_call 42; refine (l1Below_any c a len cap 60 _ HD1d.out.cur).mono ?_; rintro e w5 ⟨⟨y, y0, y9, rfl⟩, hC5, hK5⟩))
          have HD5 := hidP (HD1d.out.keep hC5 hK5)
          clear hC5 hK5
          refine hK.out _ _ trivial (fun hHeld => ?_)
          clear hK KK
          refine wpAnyH_ready (rs := [0, 2]) (by kernel_rfl) (by simp) ?_
          refine AllReadyH.cons rfl (fun KK hK => ?_) (AllReadyH.cons rfl (fun KK hK => ?_) AllReadyH.nil)
          · have l0 := HD5.out.d0
            have l1 := HD5.out.d1
            have l2 := HD5.out.d2
            go_simp
            clear l0 l1 l2
            refine hK.out _ _ trivial (fun hHeld => ?_)
            clear hK KK
            refine wpAnyH_ready (rs := [2]) (by kernel_rfl) (by simp) ?_
            refine AllReadyH.cons rfl (fun KK hK => ?_) AllReadyH.nil
            have l2 := HD5.out.d2
            go_simp
            clear l2
            refine hK.out _ _ trivial (fun hHeld => ?_)
            clear hK KK
            refine tkA 5 39 (v := ?_) rfl (by kernel_rfl) (fun _ _ _ h => h) (by rfl) ?_ (by assumption) ?_; rotate_left; · (intro w hSw; (try dsimp only at hSw); go_simp; try with_reducible rfl)
            simp only [Act.put, List.setIfInBounds_toArray, List.set_cons_zero, List.set_cons_succ]
            refine wpAnyH_ready (rs := [6]) (by kernel_rfl) (by simp) ?_
            refine AllReadyH.cons rfl (fun KK hK => ?_) AllReadyH.nil
            go_simp
            go_wp2_with (first | (go_at_call 57; refine (sAdv12 b n d K N ls _ HN.out.1 HD5.out.own.row HN.out.2.2.2 h80 HS.out _).mono ?_; rintro e w6 ⟨b', n', d', N', ls', v', rfl, ho, hn', hs', hb6⟩))
            have HO := hidP (And.intro ho (And.intro hn' hs'))
            have HB := hidP HD5.out.sz
            have HD6 := hidP (HD5.out.below hb6)
            clear ho hn' hs' hb6
            refine hK.out _ _ trivial (fun hHeld => ?_)
            clear hK KK
            refine tkA 7 33 (v := ?_) rfl (by kernel_rfl) (fun _ _ _ h => h) (by rfl) ?_ (by assumption) ?_; rotate_left; · (intro w hSw; (try dsimp only at hSw); go_simp; try with_reducible rfl)
            simp only [Act.put, List.setIfInBounds_toArray, List.set_cons_zero, List.set_cons_succ]
            refine tkA 8 41 (v := ?_) rfl (by kernel_rfl) (fun _ _ _ h => h) (by rfl) ?_ (by assumption) ?_; rotate_left; · (intro w hSw; (try dsimp only at hSw); go_simp; try with_reducible rfl)
            simp only [Act.put, List.setIfInBounds_toArray, List.set_cons_zero, List.set_cons_succ]
            refine tkA 9 42 (v := ?_) rfl (by kernel_rfl) (fun _ _ _ h => h) (by rfl) ?_ (by assumption) ?_; rotate_left; · (intro w hSw; (try dsimp only at hSw); go_simp; try with_reducible rfl)
            simp only [Act.put, List.setIfInBounds_toArray, List.set_cons_zero, List.set_cons_succ]
            refine wpAnyH_ready (rs := [10]) (by kernel_rfl) (by simp) ?_
            refine AllReadyH.cons rfl (fun KK hK => ?_) AllReadyH.nil
            have s0 := HD6.out.d0
            have s1 := HD6.out.d1
            have s2 := HD6.out.d2
            have sF := HD6.out.dF
            go_simp
            clear s0 s1 s2 sF
            refine hK.out _ _ trivial (fun hHeld => ?_)
            clear hK KK
            refine wpAnyH_done (by kernel_rfl) ?_ _
            clear hHeld
            go_wp2_with fail
            go_roundw
            case rel => exact ⟨i - 1, b', n', d', K, N', ls', by go_num, by omega, HO.out.2.1, HD6.out.put HB.out HO.out.1 (by have := HO.out.2.1; omega) HO.out.2.2⟩
            case measure => simp [intOf]; omega
          · have l2 := HD5.out.d2
            go_simp
            clear l2
            refine hK.out _ _ trivial (fun hHeld => ?_)
            clear hK KK
            refine tkA 5 39 (v := ?_) rfl (by kernel_rfl) (fun _ _ _ h => h) (by rfl) ?_ (by assumption) ?_; rotate_left; · (intro w hSw; (try dsimp only at hSw); go_simp; try with_reducible rfl)
            simp only [Act.put, List.setIfInBounds_toArray, List.set_cons_zero, List.set_cons_succ]
            refine wpAnyH_ready (rs := [0]) (by kernel_rfl) (by simp) ?_
            refine AllReadyH.cons rfl (fun KK hK => ?_) AllReadyH.nil
            have l0 := HD5.out.d0
            have l1 := HD5.out.d1
            have l2 := HD5.out.d2
            go_simp
            clear l0 l1 l2
            refine hK.out _ _ trivial (fun hHeld => ?_)
            clear hK KK
            refine wpAnyH_ready (rs := [6]) (by kernel_rfl) (by simp) ?_
            refine AllReadyH.cons rfl (fun KK hK => ?_) AllReadyH.nil
            go_simp
            go_wp2_with (first | (go_at_call 57; refine (sAdv12 b n d K N ls _ HN.out.1 HD5.out.own.row HN.out.2.2.2 h80 HS.out _).mono ?_; rintro e w6 ⟨b', n', d', N', ls', v', rfl, ho, hn', hs', hb6⟩))
            have HO := hidP (And.intro ho (And.intro hn' hs'))
            have HB := hidP HD5.out.sz
            have HD6 := hidP (HD5.out.below hb6)
            clear ho hn' hs' hb6
            refine hK.out _ _ trivial (fun hHeld => ?_)
            clear hK KK
            refine tkA 7 33 (v := ?_) rfl (by kernel_rfl) (fun _ _ _ h => h) (by rfl) ?_ (by assumption) ?_; rotate_left; · (intro w hSw; (try dsimp only at hSw); go_simp; try with_reducible rfl)
            simp only [Act.put, List.setIfInBounds_toArray, List.set_cons_zero, List.set_cons_succ]
            refine tkA 8 41 (v := ?_) rfl (by kernel_rfl) (fun _ _ _ h => h) (by rfl) ?_ (by assumption) ?_; rotate_left; · (intro w hSw; (try dsimp only at hSw); go_simp; try with_reducible rfl)
            simp only [Act.put, List.setIfInBounds_toArray, List.set_cons_zero, List.set_cons_succ]
            refine tkA 9 42 (v := ?_) rfl (by kernel_rfl) (fun _ _ _ h => h) (by rfl) ?_ (by assumption) ?_; rotate_left; · (intro w hSw; (try dsimp only at hSw); go_simp; try with_reducible rfl)
            simp only [Act.put, List.setIfInBounds_toArray, List.set_cons_zero, List.set_cons_succ]
            refine wpAnyH_ready (rs := [10]) (by kernel_rfl) (by simp) ?_
            refine AllReadyH.cons rfl (fun KK hK => ?_) AllReadyH.nil
            have s0 := HD6.out.d0
            have s1 := HD6.out.d1
            have s2 := HD6.out.d2
            have sF := HD6.out.dF
            go_simp
            clear s0 s1 s2 sF
            refine hK.out _ _ trivial (fun hHeld => ?_)
            clear hK KK
            refine wpAnyH_done (by kernel_rfl) ?_ _
            clear hHeld
            go_wp2_with fail
            go_roundw
            case rel => exact ⟨i - 1, b', n', d', K, N', ls', by go_num, by omega, HO.out.2.1, HD6.out.put HB.out HO.out.1 (by have := HO.out.2.1; omega) HO.out.2.2⟩
            case measure => simp [intOf]; omega
    · have g0 : decide ((0 : Int) < (i : Int)) = false := decide_eq_false (by omega)
      have p0 := HD0.out.d0
      have p1 := HD0.out.d1
      have p2 := HD0.out.d2
      have q0 := HD0.out.r0
      have q1 := HD0.out.r1
      have q2 := HD0.out.r2
      have qF := HD0.out.rF
      go_wp2_with fail
      refine bodyPost_ret (v := .agg #[.slice b n d, .int .i64 K, .int .i64 N]) (by simp [results, Tryz.results40, go_sem, q0, q1, q2]) rfl ⟨b, n, d, K, N, ls, rfl, HN.out.1, h80, HS.out, (HD0.out.fin _ _ _).2.2, (HD0.out.fin _ _ _).1, (HD0.out.fin _ _ _).2.1⟩

end Go.Proofs.YtddnofonodgneaaGreatDoor
namespace Go.Proofs.YtddnofonodgneaaGreatDoor
open Go.RowKit

/-- While a law draws: the result's box is w's first new block, the cursor its second. -/
structure OpI (w X : World) (a : Option Addr) (len cap : Nat) : Prop where
  acc : Below w.heap.size w X
  cur : Cur X (w.heap.size + 1) a len cap
  r0 : X.cell? ⟨w.heap.size, 0, none⟩ = some (.slice none 0 0)
  r1 : X.cell? ⟨w.heap.size, 1, none⟩ = some (.int .i64 0)
  r2 : X.cell? ⟨w.heap.size, 2, none⟩ = some (.int .i64 0)
  rF : ∀ o, X.frozen? ⟨w.heap.size, o, none⟩ = false
theorem OpI.b2 {w X Y : World} {a : Option Addr} {len cap : Nat} (h : OpI w X a len cap) (k : Below (w.heap.size + 2) X Y) : OpI w Y a len cap :=
  ⟨h.acc.trans (k.mono (by omega)), h.cur.keep k, (k.cell (by dsimp only; omega)).trans h.r0, (k.cell (by dsimp only; omega)).trans h.r1, (k.cell (by dsimp only; omega)).trans h.r2, fun o => (k.frozen (by dsimp only; omega)).trans (h.rF o)⟩
theorem OpI.keep {w X Y : World} {a : Option Addr} {len cap : Nat} (h : OpI w X a len cap) (hC : Cur Y (w.heap.size + 1) a len cap) (k : Kp (w.heap.size + 1) X Y) : OpI w Y a len cap :=
  ⟨h.acc.trans (k.low.mono (by omega)), hC, (k.low.cell (by dsimp only; omega)).trans h.r0, (k.low.cell (by dsimp only; omega)).trans h.r1, (k.low.cell (by dsimp only; omega)).trans h.r2, fun o => (k.low.frozen (by dsimp only; omega)).trans (h.rF o)⟩
theorem OpI.sz {w X : World} {a : Option Addr} {len cap : Nat} (h : OpI w X a len cap) : w.heap.size + 2 ≤ X.heap.size := h.cur.lt
theorem OpI.below {w X Y : World} {a : Option Addr} {len cap : Nat} (h : OpI w X a len cap) (k : Below X.heap.size X Y) : OpI w Y a len cap := h.b2 (k.mono h.sz)
/-- And the book's box is block e. -/
structure OpB (w X : World) (a : Option Addr) (len cap : Nat) (e : Nat) (b : Option Addr) (n d : Nat) (K N : Int) (ls : List Ls) : Prop where
  op : OpI w X a len cap
  he : w.heap.size + 2 ≤ e
  hl : e < X.heap.size
  d0 : X.cell? ⟨e, 0, none⟩ = some (.slice b n d)
  d1 : X.cell? ⟨e, 1, none⟩ = some (.int .i64 K)
  d2 : X.cell? ⟨e, 2, none⟩ = some (.int .i64 N)
  own : OwnG KLs 35 X (w.heap.size + 2) (.slice b n d) ls
theorem OpB.keep {w X Y : World} {a : Option Addr} {len cap e : Nat} {b : Option Addr} {n d : Nat} {K N : Int} {ls : List Ls} (h : OpB w X a len cap e b n d K N ls) (hC : Cur Y (w.heap.size + 1) a len cap) (k : Kp (w.heap.size + 1) X Y) : OpB w Y a len cap e b n d K N ls := by
  have h1 := h.he; have h2 := h.hl
  exact ⟨h.op.keep hC k, h.he, Nat.lt_of_lt_of_le h.hl k.big, (k.cel _ _ h2 (by omega)).trans h.d0, (k.cel _ _ h2 (by omega)).trans h.d1, (k.cel _ _ h2 (by omega)).trans h.d2, h.own.kp k (by omega)⟩
theorem OpB.below {w X Y : World} {a : Option Addr} {len cap e : Nat} {b : Option Addr} {n d : Nat} {K N : Int} {ls : List Ls} (h : OpB w X a len cap e b n d K N ls) (k : Below X.heap.size X Y) : OpB w Y a len cap e b n d K N ls :=
  ⟨h.op.below k, h.he, Nat.lt_of_lt_of_le h.hl k.size, (k.cell h.hl).trans h.d0, (k.cell h.hl).trans h.d1, (k.cell h.hl).trans h.d2, h.own.later k⟩
theorem OpI.fin {w X : World} {a : Option Addr} {len cap : Nat} (h : OpI w X a len cap) {b : Option Addr} {n d : Nat} {ls : List Ls} (ho : OwnG KLs 35 X (w.heap.size + 2) (.slice b n d) ls) (u v x : Value) :
    OwnG KLs 35 (((X.setCell ⟨w.heap.size, 0, none⟩ u).setCell ⟨w.heap.size, 1, none⟩ v).setCell ⟨w.heap.size, 2, none⟩ x) w.heap.size (.slice b n d) ls ∧ Below w.heap.size w (((X.setCell ⟨w.heap.size, 0, none⟩ u).setCell ⟨w.heap.size, 1, none⟩ v).setCell ⟨w.heap.size, 2, none⟩ x) :=
  ⟨OwnG.mono (OwnG.grown (OwnG.grown (OwnG.grown ho (grown_cellG _ _ _ _) (OwnG.ne_of ho (by omega))) (grown_cellG _ _ _ _) (OwnG.ne_of ho (by omega))) (grown_cellG _ _ _ _) (OwnG.ne_of ho (by omega))) (by omega), ((h.acc.setCell (Nat.le_refl _) _).setCell (Nat.le_refl _) _).setCell (Nat.le_refl _) _⟩

theorem cells6 (w : World) (t : TypeId) (x0 x1 x2 x3 x4 x5 : Int) : ∀ j, j < 6 → ∃ z, (fun _ : Int => True) z ∧ (w.alloc (.cells #[.int .i64 x0, .int .i64 x1, .int .i64 x2, .int .i64 x3, .int .i64 x4, .int .i64 x5] t)).cell? ⟨w.heap.size, j, none⟩ = some (.int .i64 z) := fun j hj => by
  match j, hj with
  | 0, _ => exact ⟨x0, trivial, by simp [go_sem]⟩
  | 1, _ => exact ⟨x1, trivial, by simp [go_sem]⟩
  | 2, _ => exact ⟨x2, trivial, by simp [go_sem]⟩
  | 3, _ => exact ⟨x3, trivial, by simp [go_sem]⟩
  | 4, _ => exact ⟨x4, trivial, by simp [go_sem]⟩
  | 5, _ => exact ⟨x5, trivial, by simp [go_sem]⟩
set_option maxRecDepth 10000 in
set_option maxHeartbeats 4000000 in
theorem l6DrawAny_any (c : Nat) (a : Option Addr) (len cap : Nat) (m : Int) (W : World) (hC : Cur W c a len cap) (hm : 0 < m) (hm9 : m ≤ 100) :
    Calls Tryz.prog 18 #[.pointer (some ⟨c, 0, none⟩), .int .i64 m] W fun e W' => ∃ b' n' d' K' N' ls', e = .returned (.agg #[.slice b' n' d', .int .i64 K', .int .i64 N']) ∧ n' = ls'.length ∧ n' ≤ 81 ∧ Sml ls' ∧ OwnG KLs 35 W' W.heap.size (.slice b' n' d') ls' ∧ Cur W' c a len cap ∧ Kp c W W' := by
  have HC := hidP hC
  have hcl := hC.lt
  clear hC
  go_enter Tryz.func18, Tryz.ntmps18
  go_wp2_with fail
  have zb1 := alloc_below W (.cells #[.slice none 0 0, .int .i64 0, .int .i64 0] 26)
  have zs1 : (W.alloc (.cells #[.slice none 0 0, .int .i64 0, .int .i64 0] 26)).heap.size = W.heap.size + 1 := by simp
  obtain ⟨q0, q1, q2⟩ := box3B W 26 (.slice none 0 0) (.int .i64 0) (.int .i64 0)
  have qF := frz3 W 26 (.slice none 0 0) (.int .i64 0) (.int .i64 0)
  generalize W.alloc (.cells #[.slice none 0 0, .int .i64 0, .int .i64 0] 26) = W1 at *
  have hC1 := HC.out.grew zb1
  have hk1 := Kp.of_below hcl zb1
  refine (l6Draw_any c a len cap m _ hC1 hm hm9).mono ?_
  rintro e w2 ⟨b, n, d, K, N, ls, rfl, hn, h80, hs, ho2, hC2, hK2⟩
  rw [zs1] at ho2
  have HN := hidP (And.intro hn hs)
  have HQ := hidP (BnI.mk0 (r := W.heap.size) (W := W) K N hC2 (hk1.trans hK2) hcl (Nat.le_refl _) (by have := hK2.big; omega) ((hK2.cel _ _ (by omega) (by omega)).trans q0) ((hK2.cel _ _ (by omega) (by omega)).trans q1) ((hK2.cel _ _ (by omega) (by omega)).trans q2) (fun o => (hK2.frz _ _ (by omega) (by omega)).trans (qF o)) ho2)
  have ne1 : ¬ (w2.heap.size = W.heap.size) := by have := hK2.big; omega
  have ne2 : ¬ (W.heap.size = w2.heap.size) := by omega
  clear hn hs ho2 hC2 hK2 q0 q1 q2 qF hC1 hk1 zb1 zs1
  go_wp2_with fail
  generalize w2.alloc (.cells #[.slice b n d, .int .i64 K, .int .i64 N] 26) = w3 at *
  refine (l1Once_any c a len cap 6 _ HQ.out.cur).mono ?_
  rintro e w4 ⟨⟨B, rfl⟩, hC4, hK4⟩
  have HD4 := hidP (HQ.out.keep hC4 hK4)
  clear hC4 hK4 HQ
  cases B
  · have p0 := HD4.out.d0
    have q0 := HD4.out.r0
    have p1 := HD4.out.d1
    have q1 := HD4.out.r1
    have p2 := HD4.out.d2
    have q2 := HD4.out.r2
    have qF := HD4.out.rF
    have pF := HD4.out.dF
    go_wp2_with fail
    refine bodyPost_ret (v := .agg #[.slice b n d, .int .i64 K, .int .i64 N]) (by simp [results, Tryz.results18, go_sem, q0, q1, q2]) rfl ⟨b, n, d, K, N, ls, rfl, HN.out.1, (by omega), HN.out.2, (HD4.out.fin _ _ _).2.2, (HD4.out.fin _ _ _).1, (HD4.out.fin _ _ _).2.1⟩
  · have p0 := HD4.out.d0
    have p1 := HD4.out.d1
    have p2 := HD4.out.d2
    go_wp2_with fail
    refine (l6Bend_any c a len cap b n d K N ls _ HD4.out.cur HN.out.1 HD4.out.own.row HD4.out.own.caps.2.2.2 h80 HN.out.2).mono ?_
    rintro e w5 ⟨b', n', d', K', N', ls', rfl, hn', h81, hs', ho5, hC5, hK5⟩
    have ne' : ∀ k, (Value.slice b' n' d').ownBlock = some k → k ≠ w2.heap.size := fun k hk => by have := (OwnG.lt ho5 k hk).1; have := HD4.out.hl; omega
    have HN5 := hidP (And.intro hn' hs')
    have HD5 := hidP ((HD4.out.keep hC5 hK5).put K' N' (OwnG.mono ho5 HD4.out.sz) ne')
    have p0 := (HD4.out.keep hC5 hK5).d0
    have p1 := (HD4.out.keep hC5 hK5).d1
    have p2 := (HD4.out.keep hC5 hK5).d2
    have pF := (HD4.out.keep hC5 hK5).dF
    have q0 := (HD4.out.keep hC5 hK5).r0
    have q1 := (HD4.out.keep hC5 hK5).r1
    have q2 := (HD4.out.keep hC5 hK5).r2
    have qF := (HD4.out.keep hC5 hK5).rF
    clear hn' hs' ho5 hC5 hK5 ne' HD4
    go_wp2_with fail
    refine bodyPost_ret (v := .agg #[.slice b' n' d', .int .i64 K', .int .i64 N']) (by simp [results, Tryz.results18, go_sem, q0, q1, q2]) rfl ⟨b', n', d', K', N', ls', rfl, HN5.out.1, by omega, HN5.out.2, (HD5.out.fin _ _ _).2.2, (HD5.out.fin _ _ _).1, (HD5.out.fin _ _ _).2.1⟩

end Go.Proofs.YtddnofonodgneaaGreatDoor
