/-
  The specification's l7Asked: some Id and some number.
-/
import Derived.Test.YtjenbmiiikeenaaWDraw7
namespace Go.Proofs.Ytjenbmiiikeenaa
open Go.RowKit

/-- While one is asked for: the desk's box is W's first new block; its row lies behind the cursor. -/
structure AkI (c : Nat) (a : Option Addr) (len cap : Nat) (W X : World) (B : Nat) (b : Option Addr) (n d : Nat) (ls : List Ss) : Prop where
  cur : Cur X c a len cap
  kp : Kp c W X
  hB : c < B
  hW : B ≤ W.heap.size
  sz : W.heap.size + 1 ≤ X.heap.size
  d0 : X.cell? ⟨W.heap.size, 0, none⟩ = some (.slice b n d)
  own : OwnG KSs 39 X B (.slice b n d) ls
  old : ∀ k, (Value.slice b n d).ownBlock = some k → k < W.heap.size
theorem AkI.keep {c : Nat} {a : Option Addr} {len cap : Nat} {W X : World} {B : Nat} {b : Option Addr} {n d : Nat} {ls : List Ss} {Y : World} (h : AkI c a len cap W X B b n d ls) (hC : Cur Y c a len cap) (k : Kp c X Y) : AkI c a len cap W Y B b n d ls := by
  have h1 := h.hB; have h2 := h.hW; have h3 := h.sz; have h4 := k.big
  exact ⟨hC, h.kp.trans k, h.hB, h.hW, by omega, (k.cel _ _ (by omega) (by omega)).trans h.d0, h.own.kp k h.hB, h.old⟩
theorem AkI.below {c : Nat} {a : Option Addr} {len cap : Nat} {W X : World} {B : Nat} {b : Option Addr} {n d : Nat} {ls : List Ss} {Y : World} (h : AkI c a len cap W X B b n d ls) (k : Below X.heap.size X Y) : AkI c a len cap W Y B b n d ls :=
  h.keep (h.cur.grew k) (Kp.of_below h.cur.lt k)
/-- A box of noughts behind all that. -/
structure BxZ (c : Nat) (W Y : World) (x : Nat) : Prop where
  z0 : Y.cell? ⟨x, 0, none⟩ = some (.int .i64 0)
  z1 : Y.cell? ⟨x, 1, none⟩ = some (.int .i64 0)
  z2 : Y.cell? ⟨x, 2, none⟩ = some (.string ⟨#[]⟩)
  z3 : Y.cell? ⟨x, 3, none⟩ = some (.int .i64 0)
  zF : ∀ o, Y.frozen? ⟨x, o, none⟩ = false
  zl : x < Y.heap.size
  zW : W.heap.size + 1 ≤ x
theorem BxZ.keep {c : Nat} {W Y Z : World} {x : Nat} (h : BxZ c W Y x) (hc : c < W.heap.size) (k : Kp c Y Z) : BxZ c W Z x := by
  have h1 := h.zl; have h2 := h.zW
  exact ⟨(k.cel _ _ h1 (by omega)).trans h.z0, (k.cel _ _ h1 (by omega)).trans h.z1, (k.cel _ _ h1 (by omega)).trans h.z2, (k.cel _ _ h1 (by omega)).trans h.z3, fun o => (k.frz _ _ h1 (by omega)).trans (h.zF o), Nat.lt_of_lt_of_le h1 k.big, h.zW⟩
theorem BxZ.mk' (c : Nat) (W Y : World) (h : W.heap.size + 1 ≤ Y.heap.size) (t : TypeId) : BxZ c W (Y.alloc (.cells #[.int .i64 0, .int .i64 0, .string ⟨#[]⟩, .int .i64 0] t)) Y.heap.size :=
  ⟨by simp [go_sem], by simp [go_sem], by simp [go_sem], by simp [go_sem], fun o => by simp [go_sem], alloc_lt _ _, h⟩
theorem BxZ.drew {c : Nat} {W Y : World} {x : Nat} (h : BxZ c W Y x) : BxZ c W Y.drew x := ⟨h.z0, h.z1, h.z2, h.z3, h.zF, h.zl, h.zW⟩
/-- The box gets a session. -/
theorem AkI.box {c : Nat} {a : Option Addr} {len cap : Nat} {W X : World} {B : Nat} {b : Option Addr} {n d : Nat} {ls : List Ss} {x : Nat} (h : AkI c a len cap W X B b n d ls) (z : BxZ c W X x) (q : Ss) :
    AkI c a len cap W ((((X.setCell ⟨x, 0, none⟩ (.int .i64 q.i)).setCell ⟨x, 1, none⟩ (.int .i64 q.l)).setCell ⟨x, 2, none⟩ (.string q.t)).setCell ⟨x, 3, none⟩ (.int .i64 q.u)) B b n d ls ∧
    ((((X.setCell ⟨x, 0, none⟩ (.int .i64 q.i)).setCell ⟨x, 1, none⟩ (.int .i64 q.l)).setCell ⟨x, 2, none⟩ (.string q.t)).setCell ⟨x, 3, none⟩ (.int .i64 q.u)).cell? ⟨x, 0, none⟩ = some (.int .i64 q.i) ∧
    ((((X.setCell ⟨x, 0, none⟩ (.int .i64 q.i)).setCell ⟨x, 1, none⟩ (.int .i64 q.l)).setCell ⟨x, 2, none⟩ (.string q.t)).setCell ⟨x, 3, none⟩ (.int .i64 q.u)).cell? ⟨x, 1, none⟩ = some (.int .i64 q.l) ∧
    x < ((((X.setCell ⟨x, 0, none⟩ (.int .i64 q.i)).setCell ⟨x, 1, none⟩ (.int .i64 q.l)).setCell ⟨x, 2, none⟩ (.string q.t)).setCell ⟨x, 3, none⟩ (.int .i64 q.u)).heap.size := by
  have h1 := h.hB; have h2 := h.hW; have h3 := z.zW
  have hcw : c < W.heap.size := by omega
  have hnx : ∀ k, (Value.slice b n d).ownBlock = some k → some x ≠ some k := fun k hk e => by have := h.old k hk; simp at e; omega
  refine ⟨⟨(((h.cur.far (by omega) _).far (by omega) _).far (by omega) _).far (by omega) _, (((h.kp.setNew hcw (by omega) _).setNew hcw (by omega) _).setNew hcw (by omega) _).setNew hcw (by omega) _, h.hB, h.hW, by simpa using h.sz, cell_set1 (cell_set1 (cell_set1 (cell_set1 h.d0 (by omega)) (by omega)) (by omega)) (by omega), OwnG.grown (OwnG.grown (OwnG.grown (OwnG.grown h.own (grown_cellG _ _ _ _) hnx) (grown_cellG _ _ _ _) hnx) (grown_cellG _ _ _ _) hnx) (grown_cellG _ _ _ _) hnx, h.old⟩, by simp [go_sem, z.z0], by simp [go_sem, z.z1], by simpa using z.zl⟩

set_option maxRecDepth 10000 in
set_option maxHeartbeats 8000000 in
theorem l7Asked_any (c : Nat) (a : Option Addr) (len cap B : Nat) (b : Option Addr) (n d : Nat) (N : Int) (ls : List Ss) (W : World) (hC : Cur W c a len cap) (hB : c < B) (hW : B ≤ W.heap.size) (ho : OwnG KSs 39 W B (.slice b n d) ls) (h12 : n ≤ 12) :
    Calls Try.prog 20 #[.pointer (some ⟨c, 0, none⟩), .agg #[.slice b n d, .int .i64 N]] W fun e W' => (∃ id s : Int, e = .returned (.tuple #[.int .i64 id, .int .i64 s])) ∧ Cur W' c a len cap ∧ Kp c W W' := by
  have hn := ho.caps.1
  have HN := hidP hn
  have HD1 := hidP (show AkI c a len cap W (W.alloc (.cells #[.slice b n d, .int .i64 N] 26)) B b n d ls from by
    have zb := alloc_below W (.cells #[.slice b n d, .int .i64 N] 26)
    exact ⟨hC.grew zb, Kp.of_below hC.lt zb, hB, hW, by simp, by simp [go_sem], ho.later zb, fun k hk => (OwnG.lt ho k hk).2⟩)
  clear hC ho hn
  by_cases hn0 : n = 0
  · have g0 : ((n : Int) == 0) = true := by rw [beq_iff_eq]; omega
    go_enter Try.func20, Try.ntmps20
    clear hn0
    go_wp2_with fail
    generalize W.alloc (.cells #[.slice b n d, .int .i64 N] 26) = W1 at *
    refine (l1Below_any c a len cap 5 _ HD1.out.cur).mono ?_
    rintro e w5 ⟨⟨x, x0, x9, rfl⟩, hC5, hK5⟩
    have HD5 := hidP (HD1.out.keep hC5 hK5)
    clear hC5 hK5 x9
    go_wp2_with fail
    refine (l1Below_any c a len cap 3 _ HD5.out.cur).mono ?_
    rintro e w6 ⟨⟨y, y0, y9, rfl⟩, hC6, hK6⟩
    have HD6 := hidP (HD5.out.keep hC6 hK6)
    clear hC6 hK6 y9
    go_wp2_with fail
    refine bodyPost_ret (v := .tuple #[.int .i64 x, .int .i64 y]) (by simp [results, Try.results20, go_sem]) rfl ⟨⟨x, y, rfl⟩, HD6.out.cur, HD6.out.kp⟩
  · have g0 : ((n : Int) == 0) = false := by rw [beq_eq_false_iff_ne]; omega
    obtain ⟨g, rfl⟩ := own_some HD1.out.own (by omega)
    go_enter Try.func20, Try.ntmps20
    go_wp2_with fail
    generalize W.alloc (.cells #[.slice (some ⟨g, 0, none⟩) n d, .int .i64 N] 26) = W1 at *
    refine (l1Once_any c a len cap 6 _ HD1.out.cur).mono ?_
    rintro e w2 ⟨⟨Bo, rfl⟩, hC2, hK2⟩
    have HD2 := hidP (HD1.out.keep hC2 hK2)
    clear hC2 hK2
    cases Bo
    · go_wp2_with fail
      have hcw : c < W.heap.size := by omega
      have HD2d := hidP (HD2.out.below (Below.refl _ _).drew)
      refine wp_region_held_drew (S := (fun X => X.cell? ⟨W.heap.size, 0, none⟩ = some (.slice (some ⟨g, 0, none⟩) n d))) (by kernel_rfl) ?_ (fun hHeld => ?_)
      · try dsimp only
        exact HD2d.out.d0
      refine wpAnyH_take (i := 0) (oi := ⟨some 19, _, _, _, _, _⟩) (v := ?_) rfl (by kernel_rfl) (by kernel_rfl) (by kernel_rfl) (fun _ _ _ h => h) (Or.inl ⟨by rfl, ?_⟩) (by assumption) ?_
      rotate_left
      · intro w hSw
        try dsimp only at hSw
        go_simp
        try with_reducible rfl
      simp only [Act.put, List.setIfInBounds_toArray, List.set_cons_zero, List.set_cons_succ]
      refine wpAnyH_take (i := 1) (oi := ⟨some 20, _, _, _, _, _⟩) (v := ?_) rfl (by kernel_rfl) (by kernel_rfl) (by kernel_rfl) (fun _ _ _ h => h) (Or.inl ⟨by rfl, ?_⟩) (by assumption) ?_
      rotate_left
      · intro w hSw
        try dsimp only at hSw
        go_simp
        try with_reducible rfl
      simp only [Act.put, List.setIfInBounds_toArray, List.set_cons_zero, List.set_cons_succ]
      refine wpAnyH_take (i := 2) (oi := ⟨some 21, _, _, _, _, _⟩) (v := ?_) rfl (by kernel_rfl) (by kernel_rfl) (by kernel_rfl) (fun _ _ _ h => h) (Or.inl ⟨by rfl, ?_⟩) (by assumption) ?_
      rotate_left
      · intro w hSw
        try dsimp only at hSw
        go_simp
        try with_reducible rfl
      simp only [Act.put, List.setIfInBounds_toArray, List.set_cons_zero, List.set_cons_succ]
      refine wpAnyH_take (i := 3) (oi := ⟨some 22, _, _, _, _, _⟩) (v := ?_) rfl (by kernel_rfl) (by kernel_rfl) (by kernel_rfl) (fun _ _ _ h => h) (Or.inl ⟨by rfl, ?_⟩) (by assumption) ?_
      rotate_left
      · intro w hSw
        try dsimp only at hSw
        go_simp
        try with_reducible rfl
      simp only [Act.put, List.setIfInBounds_toArray, List.set_cons_zero, List.set_cons_succ]
      refine wpAnyH_take (i := 4) (oi := ⟨some 23, _, _, _, _, _⟩) (v := ?_) rfl (by kernel_rfl) (by kernel_rfl) (by kernel_rfl) (fun _ _ _ h => h) (Or.inl ⟨by rfl, ?_⟩) (by assumption) ?_
      rotate_left
      · intro w hSw
        try dsimp only at hSw
        go_simp
        try with_reducible rfl
      simp only [Act.put, List.setIfInBounds_toArray, List.set_cons_zero, List.set_cons_succ]
      refine wpAnyH_take (i := 5) (oi := ⟨some 24, _, _, _, _, _⟩) (v := ?_) rfl (by kernel_rfl) (by kernel_rfl) (by kernel_rfl) (fun _ _ _ h => h) (Or.inl ⟨by rfl, ?_⟩) (by assumption) ?_
      rotate_left
      · intro w hSw
        try dsimp only at hSw
        go_simp
        try with_reducible rfl
      simp only [Act.put, List.setIfInBounds_toArray, List.set_cons_zero, List.set_cons_succ]
      refine wpAnyH_ready (rs := [6, 9]) (by kernel_rfl) (by simp) ?_
      refine AllReadyH.cons rfl (fun K hK => ?_) (AllReadyH.cons rfl (fun K hK => ?_) AllReadyH.nil)
      · go_simp
        go_wp2_with (first | (go_at_call 23; refine (l1Below_any c a len cap n _ HD2d.out.cur).mono ?_; rintro e w4 ⟨⟨x, x0, x9, rfl⟩, hC4, hK4⟩))
        have x9' := x9 (by omega)
        obtain ⟨j, rfl⟩ : ∃ j : Nat, x = (j : Int) := ⟨x.toNat, by omega⟩
        have hjn : j < n := by omega
        have j0 : (0 : Int) ≤ (j : Int) := by omega
        have j1 : (j : Int) < (n : Int) := by omega
        have HD4 := hidP (HD2d.out.keep hC4 hK4)
        clear hC4 hK4 x9 x9' x0
        refine hK.out _ _ ?_ (fun hHeld => ?_)
        · try dsimp only
          exact HD4.out.d0
        clear hK K
        refine wpAnyH_take (i := 7) (oi := ⟨some 26, _, _, _, _, _⟩) (v := ?_) rfl (by kernel_rfl) (by kernel_rfl) (by kernel_rfl) (fun _ _ _ h => h) (Or.inl ⟨by rfl, ?_⟩) (by assumption) ?_
        rotate_left
        · intro w hSw
          try dsimp only at hSw
          go_simp
          try with_reducible rfl
        simp only [Act.put, List.setIfInBounds_toArray, List.set_cons_zero, List.set_cons_succ]
        refine wpAnyH_ready (rs := [8, 9]) (by kernel_rfl) (by simp) ?_
        refine AllReadyH.cons rfl (fun K hK => ?_) (AllReadyH.cons rfl (fun K hK => ?_) AllReadyH.nil)
        · obtain ⟨q, hgl, hq, c0, c1, c2, c3⟩ := rowSs0 HD4.out.own j (by rw [← HN.out]; exact hjn)
          go_simp
          clear c0 c1 c2 c3 hq
          refine hK.out _ _ ?_ (fun hHeld => ?_)
          · try dsimp only
            exact HD4.out.d0
          clear hK K
          refine wpAnyH_ready (rs := [9]) (by kernel_rfl) (by simp) ?_
          refine AllReadyH.cons rfl (fun K hK => ?_) AllReadyH.nil
          go_simp
          have HZ3 := hidP (BxZ.mk' c W w4 HD4.out.sz 39)
          have zb := alloc_below w4 (.cells #[.int .i64 0, .int .i64 0, .string ⟨#[]⟩, .int .i64 0] 39)
          have HDa := hidP (HD4.out.below zb)
          clear zb
          generalize w4.alloc (.cells #[.int .i64 0, .int .i64 0, .string ⟨#[]⟩, .int .i64 0] 39) = w3 at *
          refine hK.out _ _ ?_ (fun hHeld => ?_)
          · try dsimp only
            exact HDa.out.d0
          clear hK K
          refine wpAnyH_ready (rs := [10]) (by kernel_rfl) (by simp) ?_
          refine AllReadyH.cons rfl (fun K hK => ?_) AllReadyH.nil
          have HB := hidP (HDa.out.box HZ3.out q)
          have s0 := HZ3.out.z0
          have s1 := HZ3.out.z1
          have s2 := HZ3.out.z2
          have s3 := HZ3.out.z3
          have sF := HZ3.out.zF
          go_simp
          clear s0 s1 s2 s3 sF
          refine hK.out _ _ ?_ (fun hHeld => ?_)
          · try dsimp only
            exact HB.out.1.d0
          clear hK K
          refine wpAnyH_done (by kernel_rfl) ?_ _
          clear hHeld
          obtain ⟨hA, b0, b1, bl⟩ := HB.out
          have HA := hidP hA
          have hxc : w4.heap.size ≠ c := by have := HZ3.out.zW; omega
          clear HB hA
          generalize ((((w3.setCell ⟨w4.heap.size, 0, none⟩ (.int .i64 q.i)).setCell ⟨w4.heap.size, 1, none⟩ (.int .i64 q.l)).setCell ⟨w4.heap.size, 2, none⟩ (.string q.t)).setCell ⟨w4.heap.size, 3, none⟩ (.int .i64 q.u)) = Y at *
          obtain ⟨bx, hbx⟩ : ∃ x, x = w4.heap.size := ⟨_, rfl⟩
          rw [← hbx] at b0 b1 bl hxc ⊢
          clear hbx
          go_wp2_with fail
          refine wp_region_held_drew (S := (fun X => X.cell? ⟨bx, 0, none⟩ = some (.int .i64 q.i) ∧ X.cell? ⟨bx, 1, none⟩ = some (.int .i64 q.l))) (by kernel_rfl) ?_ (fun hHeld => ?_)
          · try dsimp only
            exact ⟨b0, b1⟩
          refine wpAnyH_take (i := 0) (oi := ⟨some 28, _, _, _, _, _⟩) (v := ?_) rfl (by kernel_rfl) (by kernel_rfl) (by kernel_rfl) (fun _ _ _ h => h) (Or.inl ⟨by rfl, ?_⟩) (by assumption) ?_
          rotate_left
          · intro w hSw
            try dsimp only at hSw
            go_simp
            try with_reducible rfl
          simp only [Act.put, List.setIfInBounds_toArray, List.set_cons_zero, List.set_cons_succ]
          refine wpAnyH_take (i := 1) (oi := ⟨some 29, _, _, _, _, _⟩) (v := ?_) rfl (by kernel_rfl) (by kernel_rfl) (by kernel_rfl) (fun _ _ _ h => h) (Or.inl ⟨by rfl, ?_⟩) (by assumption) ?_
          rotate_left
          · intro w hSw
            try dsimp only at hSw
            go_simp
            try with_reducible rfl
          simp only [Act.put, List.setIfInBounds_toArray, List.set_cons_zero, List.set_cons_succ]
          refine wpAnyH_take (i := 2) (oi := ⟨some 30, _, _, _, _, _⟩) (v := ?_) rfl (by kernel_rfl) (by kernel_rfl) (by kernel_rfl) (fun _ _ _ h => h) (Or.inl ⟨by rfl, ?_⟩) (by assumption) ?_
          rotate_left
          · intro w hSw
            try dsimp only at hSw
            go_simp
            try with_reducible rfl
          simp only [Act.put, List.setIfInBounds_toArray, List.set_cons_zero, List.set_cons_succ]
          refine wpAnyH_take (i := 3) (oi := ⟨some 31, _, _, _, _, _⟩) (v := ?_) rfl (by kernel_rfl) (by kernel_rfl) (by kernel_rfl) (fun _ _ _ h => h) (Or.inl ⟨by rfl, ?_⟩) (by assumption) ?_
          rotate_left
          · intro w hSw
            try dsimp only at hSw
            go_simp
            try with_reducible rfl
          simp only [Act.put, List.setIfInBounds_toArray, List.set_cons_zero, List.set_cons_succ]
          refine wpAnyH_take (i := 4) (oi := ⟨some 32, _, _, _, _, _⟩) (v := ?_) rfl (by kernel_rfl) (by kernel_rfl) (by kernel_rfl) (fun _ _ _ h => h) (Or.inl ⟨by rfl, ?_⟩) (by assumption) ?_
          rotate_left
          · intro w hSw
            try dsimp only at hSw
            go_simp
            try with_reducible rfl
          simp only [Act.put, List.setIfInBounds_toArray, List.set_cons_zero, List.set_cons_succ]
          refine wpAnyH_ready (rs := [5]) (by kernel_rfl) (by simp) ?_
          refine AllReadyH.cons rfl (fun K hK => ?_) AllReadyH.nil
          go_simp
          have zb := (alloc_below Y (.cells #[.int .i64 1, .int .i64 1, .int .i64 0, .int .i64 (-1), .int .i64 2] 3)).drew
          have zl : Y.heap.size < (Y.alloc (.cells #[.int .i64 1, .int .i64 1, .int .i64 0, .int .i64 (-1), .int .i64 2] 3)).drew.heap.size := alloc_lt Y (.cells #[.int .i64 1, .int .i64 1, .int .i64 0, .int .i64 (-1), .int .i64 2] 3)
          have zc : ∀ j, j < 5 → ∃ z, (fun _ : Int => True) z ∧ (Y.alloc (.cells #[.int .i64 1, .int .i64 1, .int .i64 0, .int .i64 (-1), .int .i64 2] 3)).drew.cell? ⟨Y.heap.size, j, none⟩ = some (.int .i64 z) := cells5 Y 3 1 1 0 (-1) 2
          have HF := hidP (HA.out.below zb)
          have hne : Y.heap.size ≠ c := by have := HA.out.cur.lt; omega
          have e0 := (zb.cell bl).trans b0
          have e1 := (zb.cell bl).trans b1
          have el : bx < (Y.alloc (.cells #[.int .i64 1, .int .i64 1, .int .i64 0, .int .i64 (-1), .int .i64 2] 3)).drew.heap.size := Nat.lt_of_lt_of_le bl zb.size
          generalize (Y.alloc (.cells #[.int .i64 1, .int .i64 1, .int .i64 0, .int .i64 (-1), .int .i64 2] 3)).drew = Y2 at *
          refine hK.out _ _ ?_ (fun hHeld => ?_)
          · try dsimp only
            exact ⟨e0, e1⟩
          clear hK K
          refine wpAnyH_ready (rs := [6]) (by kernel_rfl) (by simp) ?_
          refine AllReadyH.cons rfl (fun K hK => ?_) AllReadyH.nil
          go_simp
          go_wp2_with (first | (go_at_call 24; refine (l1Int_any (fun _ => True) c a len cap Y.heap.size 5 _ HF.out.cur (by omega) (by omega) zl hne zc).mono ?_; rintro e Y3 ⟨⟨z, _, rfl⟩, hC9, hK9⟩))
          have HG := hidP (HF.out.keep hC9 hK9)
          have f0 := (hK9.cel _ _ el hxc).trans e0
          have f1 := (hK9.cel _ _ el hxc).trans e1
          clear hC9 hK9 zb zl zc
          refine hK.out _ _ ?_ (fun hHeld => ?_)
          · try dsimp only
            exact ⟨f0, f1⟩
          clear hK K
          refine wpAnyH_take (i := 7) (oi := ⟨some 35, _, _, _, _, _⟩) (v := ?_) rfl (by kernel_rfl) (by kernel_rfl) (by kernel_rfl) (fun _ _ _ h => h) (Or.inl ⟨by rfl, ?_⟩) (by assumption) ?_
          rotate_left
          · intro w hSw
            try dsimp only at hSw
            go_simp
            try with_reducible rfl
          simp only [Act.put, List.setIfInBounds_toArray, List.set_cons_zero, List.set_cons_succ]
          refine wpAnyH_take (i := 8) (oi := ⟨some 4, _, _, _, _, _⟩) (v := ?_) rfl (by kernel_rfl) (by kernel_rfl) (by kernel_rfl) (fun _ _ _ h => h) (Or.inl ⟨by rfl, ?_⟩) (by assumption) ?_
          rotate_left
          · intro w hSw
            try dsimp only at hSw
            go_simp
            try with_reducible rfl
          simp only [Act.put, List.setIfInBounds_toArray]
          refine wpAnyH_take (i := 9) (oi := ⟨some 5, _, _, _, _, _⟩) (v := ?_) rfl (by kernel_rfl) (by kernel_rfl) (by kernel_rfl) (fun _ _ _ h => h) (Or.inl ⟨by rfl, ?_⟩) (by assumption) ?_
          rotate_left
          · intro w hSw
            try dsimp only at hSw
            go_simp
            try with_reducible rfl
          simp only [Act.put, List.setIfInBounds_toArray]
          refine wpAnyH_done (by kernel_rfl) ?_ _
          clear hHeld
          go_wp2_with fail
          refine bodyPost_ret (v := .tuple #[.int .i64 q.i, .int .i64 (IntKind.i64.wrap (q.l + z))]) (by simp [results, Try.results20, go_sem]) rfl ⟨⟨_, _, rfl⟩, HG.out.cur, HG.out.kp⟩
        · go_simp
          have HZ3 := hidP (BxZ.mk' c W w4 HD4.out.sz 39)
          have zb := alloc_below w4 (.cells #[.int .i64 0, .int .i64 0, .string ⟨#[]⟩, .int .i64 0] 39)
          have HDa := hidP (HD4.out.below zb)
          clear zb
          generalize w4.alloc (.cells #[.int .i64 0, .int .i64 0, .string ⟨#[]⟩, .int .i64 0] 39) = w3 at *
          refine hK.out _ _ ?_ (fun hHeld => ?_)
          · try dsimp only
            exact HDa.out.d0
          clear hK K
          refine wpAnyH_ready (rs := [8]) (by kernel_rfl) (by simp) ?_
          refine AllReadyH.cons rfl (fun K hK => ?_) AllReadyH.nil
          obtain ⟨q, hgl, hq, c0, c1, c2, c3⟩ := rowSs0 HDa.out.own j (by rw [← HN.out]; exact hjn)
          go_simp
          clear c0 c1 c2 c3 hq
          refine hK.out _ _ ?_ (fun hHeld => ?_)
          · try dsimp only
            exact HDa.out.d0
          clear hK K
          refine wpAnyH_ready (rs := [10]) (by kernel_rfl) (by simp) ?_
          refine AllReadyH.cons rfl (fun K hK => ?_) AllReadyH.nil
          have HB := hidP (HDa.out.box HZ3.out q)
          have s0 := HZ3.out.z0
          have s1 := HZ3.out.z1
          have s2 := HZ3.out.z2
          have s3 := HZ3.out.z3
          have sF := HZ3.out.zF
          go_simp
          clear s0 s1 s2 s3 sF
          refine hK.out _ _ ?_ (fun hHeld => ?_)
          · try dsimp only
            exact HB.out.1.d0
          clear hK K
          refine wpAnyH_done (by kernel_rfl) ?_ _
          clear hHeld
          obtain ⟨hA, b0, b1, bl⟩ := HB.out
          have HA := hidP hA
          have hxc : w4.heap.size ≠ c := by have := HZ3.out.zW; omega
          clear HB hA
          generalize ((((w3.setCell ⟨w4.heap.size, 0, none⟩ (.int .i64 q.i)).setCell ⟨w4.heap.size, 1, none⟩ (.int .i64 q.l)).setCell ⟨w4.heap.size, 2, none⟩ (.string q.t)).setCell ⟨w4.heap.size, 3, none⟩ (.int .i64 q.u)) = Y at *
          obtain ⟨bx, hbx⟩ : ∃ x, x = w4.heap.size := ⟨_, rfl⟩
          rw [← hbx] at b0 b1 bl hxc ⊢
          clear hbx
          go_wp2_with fail
          refine wp_region_held_drew (S := (fun X => X.cell? ⟨bx, 0, none⟩ = some (.int .i64 q.i) ∧ X.cell? ⟨bx, 1, none⟩ = some (.int .i64 q.l))) (by kernel_rfl) ?_ (fun hHeld => ?_)
          · try dsimp only
            exact ⟨b0, b1⟩
          refine wpAnyH_take (i := 0) (oi := ⟨some 28, _, _, _, _, _⟩) (v := ?_) rfl (by kernel_rfl) (by kernel_rfl) (by kernel_rfl) (fun _ _ _ h => h) (Or.inl ⟨by rfl, ?_⟩) (by assumption) ?_
          rotate_left
          · intro w hSw
            try dsimp only at hSw
            go_simp
            try with_reducible rfl
          simp only [Act.put, List.setIfInBounds_toArray, List.set_cons_zero, List.set_cons_succ]
          refine wpAnyH_take (i := 1) (oi := ⟨some 29, _, _, _, _, _⟩) (v := ?_) rfl (by kernel_rfl) (by kernel_rfl) (by kernel_rfl) (fun _ _ _ h => h) (Or.inl ⟨by rfl, ?_⟩) (by assumption) ?_
          rotate_left
          · intro w hSw
            try dsimp only at hSw
            go_simp
            try with_reducible rfl
          simp only [Act.put, List.setIfInBounds_toArray, List.set_cons_zero, List.set_cons_succ]
          refine wpAnyH_take (i := 2) (oi := ⟨some 30, _, _, _, _, _⟩) (v := ?_) rfl (by kernel_rfl) (by kernel_rfl) (by kernel_rfl) (fun _ _ _ h => h) (Or.inl ⟨by rfl, ?_⟩) (by assumption) ?_
          rotate_left
          · intro w hSw
            try dsimp only at hSw
            go_simp
            try with_reducible rfl
          simp only [Act.put, List.setIfInBounds_toArray, List.set_cons_zero, List.set_cons_succ]
          refine wpAnyH_take (i := 3) (oi := ⟨some 31, _, _, _, _, _⟩) (v := ?_) rfl (by kernel_rfl) (by kernel_rfl) (by kernel_rfl) (fun _ _ _ h => h) (Or.inl ⟨by rfl, ?_⟩) (by assumption) ?_
          rotate_left
          · intro w hSw
            try dsimp only at hSw
            go_simp
            try with_reducible rfl
          simp only [Act.put, List.setIfInBounds_toArray, List.set_cons_zero, List.set_cons_succ]
          refine wpAnyH_take (i := 4) (oi := ⟨some 32, _, _, _, _, _⟩) (v := ?_) rfl (by kernel_rfl) (by kernel_rfl) (by kernel_rfl) (fun _ _ _ h => h) (Or.inl ⟨by rfl, ?_⟩) (by assumption) ?_
          rotate_left
          · intro w hSw
            try dsimp only at hSw
            go_simp
            try with_reducible rfl
          simp only [Act.put, List.setIfInBounds_toArray, List.set_cons_zero, List.set_cons_succ]
          refine wpAnyH_ready (rs := [5]) (by kernel_rfl) (by simp) ?_
          refine AllReadyH.cons rfl (fun K hK => ?_) AllReadyH.nil
          go_simp
          have zb := (alloc_below Y (.cells #[.int .i64 1, .int .i64 1, .int .i64 0, .int .i64 (-1), .int .i64 2] 3)).drew
          have zl : Y.heap.size < (Y.alloc (.cells #[.int .i64 1, .int .i64 1, .int .i64 0, .int .i64 (-1), .int .i64 2] 3)).drew.heap.size := alloc_lt Y (.cells #[.int .i64 1, .int .i64 1, .int .i64 0, .int .i64 (-1), .int .i64 2] 3)
          have zc : ∀ j, j < 5 → ∃ z, (fun _ : Int => True) z ∧ (Y.alloc (.cells #[.int .i64 1, .int .i64 1, .int .i64 0, .int .i64 (-1), .int .i64 2] 3)).drew.cell? ⟨Y.heap.size, j, none⟩ = some (.int .i64 z) := cells5 Y 3 1 1 0 (-1) 2
          have HF := hidP (HA.out.below zb)
          have hne : Y.heap.size ≠ c := by have := HA.out.cur.lt; omega
          have e0 := (zb.cell bl).trans b0
          have e1 := (zb.cell bl).trans b1
          have el : bx < (Y.alloc (.cells #[.int .i64 1, .int .i64 1, .int .i64 0, .int .i64 (-1), .int .i64 2] 3)).drew.heap.size := Nat.lt_of_lt_of_le bl zb.size
          generalize (Y.alloc (.cells #[.int .i64 1, .int .i64 1, .int .i64 0, .int .i64 (-1), .int .i64 2] 3)).drew = Y2 at *
          refine hK.out _ _ ?_ (fun hHeld => ?_)
          · try dsimp only
            exact ⟨e0, e1⟩
          clear hK K
          refine wpAnyH_ready (rs := [6]) (by kernel_rfl) (by simp) ?_
          refine AllReadyH.cons rfl (fun K hK => ?_) AllReadyH.nil
          go_simp
          go_wp2_with (first | (go_at_call 24; refine (l1Int_any (fun _ => True) c a len cap Y.heap.size 5 _ HF.out.cur (by omega) (by omega) zl hne zc).mono ?_; rintro e Y3 ⟨⟨z, _, rfl⟩, hC9, hK9⟩))
          have HG := hidP (HF.out.keep hC9 hK9)
          have f0 := (hK9.cel _ _ el hxc).trans e0
          have f1 := (hK9.cel _ _ el hxc).trans e1
          clear hC9 hK9 zb zl zc
          refine hK.out _ _ ?_ (fun hHeld => ?_)
          · try dsimp only
            exact ⟨f0, f1⟩
          clear hK K
          refine wpAnyH_take (i := 7) (oi := ⟨some 35, _, _, _, _, _⟩) (v := ?_) rfl (by kernel_rfl) (by kernel_rfl) (by kernel_rfl) (fun _ _ _ h => h) (Or.inl ⟨by rfl, ?_⟩) (by assumption) ?_
          rotate_left
          · intro w hSw
            try dsimp only at hSw
            go_simp
            try with_reducible rfl
          simp only [Act.put, List.setIfInBounds_toArray, List.set_cons_zero, List.set_cons_succ]
          refine wpAnyH_take (i := 8) (oi := ⟨some 4, _, _, _, _, _⟩) (v := ?_) rfl (by kernel_rfl) (by kernel_rfl) (by kernel_rfl) (fun _ _ _ h => h) (Or.inl ⟨by rfl, ?_⟩) (by assumption) ?_
          rotate_left
          · intro w hSw
            try dsimp only at hSw
            go_simp
            try with_reducible rfl
          simp only [Act.put, List.setIfInBounds_toArray]
          refine wpAnyH_take (i := 9) (oi := ⟨some 5, _, _, _, _, _⟩) (v := ?_) rfl (by kernel_rfl) (by kernel_rfl) (by kernel_rfl) (fun _ _ _ h => h) (Or.inl ⟨by rfl, ?_⟩) (by assumption) ?_
          rotate_left
          · intro w hSw
            try dsimp only at hSw
            go_simp
            try with_reducible rfl
          simp only [Act.put, List.setIfInBounds_toArray]
          refine wpAnyH_done (by kernel_rfl) ?_ _
          clear hHeld
          go_wp2_with fail
          refine bodyPost_ret (v := .tuple #[.int .i64 q.i, .int .i64 (IntKind.i64.wrap (q.l + z))]) (by simp [results, Try.results20, go_sem]) rfl ⟨⟨_, _, rfl⟩, HG.out.cur, HG.out.kp⟩
      · go_simp
        have HZ3 := hidP ((BxZ.mk' c W w2 HD2.out.sz 39).drew)
        have zb := (alloc_below w2 (.cells #[.int .i64 0, .int .i64 0, .string ⟨#[]⟩, .int .i64 0] 39)).drew
        have HDa := hidP (HD2.out.below zb)
        clear zb
        generalize (w2.alloc (.cells #[.int .i64 0, .int .i64 0, .string ⟨#[]⟩, .int .i64 0] 39)).drew = w3 at *
        refine hK.out _ _ ?_ (fun hHeld => ?_)
        · try dsimp only
          exact HDa.out.d0
        clear hK K
        refine wpAnyH_ready (rs := [6]) (by kernel_rfl) (by simp) ?_
        refine AllReadyH.cons rfl (fun K hK => ?_) AllReadyH.nil
        go_simp
        go_wp2_with (first | (go_at_call 23; refine (l1Below_any c a len cap n _ HDa.out.cur).mono ?_; rintro e w4 ⟨⟨x, x0, x9, rfl⟩, hC4, hK4⟩))
        have x9' := x9 (by omega)
        obtain ⟨j, rfl⟩ : ∃ j : Nat, x = (j : Int) := ⟨x.toNat, by omega⟩
        have hjn : j < n := by omega
        have j0 : (0 : Int) ≤ (j : Int) := by omega
        have j1 : (j : Int) < (n : Int) := by omega
        have HD4 := hidP (HDa.out.keep hC4 hK4)
        have HZ4 := hidP (HZ3.out.keep hcw hK4)
        clear hC4 hK4 x9 x9' x0
        refine hK.out _ _ ?_ (fun hHeld => ?_)
        · try dsimp only
          exact HD4.out.d0
        clear hK K
        refine wpAnyH_take (i := 7) (oi := ⟨some 26, _, _, _, _, _⟩) (v := ?_) rfl (by kernel_rfl) (by kernel_rfl) (by kernel_rfl) (fun _ _ _ h => h) (Or.inl ⟨by rfl, ?_⟩) (by assumption) ?_
        rotate_left
        · intro w hSw
          try dsimp only at hSw
          go_simp
          try with_reducible rfl
        simp only [Act.put, List.setIfInBounds_toArray, List.set_cons_zero, List.set_cons_succ]
        refine wpAnyH_ready (rs := [8]) (by kernel_rfl) (by simp) ?_
        refine AllReadyH.cons rfl (fun K hK => ?_) AllReadyH.nil
        obtain ⟨q, hgl, hq, c0, c1, c2, c3⟩ := rowSs0 HD4.out.own j (by rw [← HN.out]; exact hjn)
        go_simp
        clear c0 c1 c2 c3 hq
        refine hK.out _ _ ?_ (fun hHeld => ?_)
        · try dsimp only
          exact HD4.out.d0
        clear hK K
        refine wpAnyH_ready (rs := [10]) (by kernel_rfl) (by simp) ?_
        refine AllReadyH.cons rfl (fun K hK => ?_) AllReadyH.nil
        have HB := hidP (HD4.out.box HZ4.out q)
        have s0 := HZ4.out.z0
        have s1 := HZ4.out.z1
        have s2 := HZ4.out.z2
        have s3 := HZ4.out.z3
        have sF := HZ4.out.zF
        go_simp
        clear s0 s1 s2 s3 sF
        refine hK.out _ _ ?_ (fun hHeld => ?_)
        · try dsimp only
          exact HB.out.1.d0
        clear hK K
        refine wpAnyH_done (by kernel_rfl) ?_ _
        clear hHeld
        obtain ⟨hA, b0, b1, bl⟩ := HB.out
        have HA := hidP hA
        have hxc : w2.heap.size ≠ c := by have := HZ4.out.zW; omega
        clear HB hA
        generalize ((((w4.setCell ⟨w2.heap.size, 0, none⟩ (.int .i64 q.i)).setCell ⟨w2.heap.size, 1, none⟩ (.int .i64 q.l)).setCell ⟨w2.heap.size, 2, none⟩ (.string q.t)).setCell ⟨w2.heap.size, 3, none⟩ (.int .i64 q.u)) = Y at *
        obtain ⟨bx, hbx⟩ : ∃ x, x = w2.heap.size := ⟨_, rfl⟩
        rw [← hbx] at b0 b1 bl hxc ⊢
        clear hbx
        go_wp2_with fail
        refine wp_region_held_drew (S := (fun X => X.cell? ⟨bx, 0, none⟩ = some (.int .i64 q.i) ∧ X.cell? ⟨bx, 1, none⟩ = some (.int .i64 q.l))) (by kernel_rfl) ?_ (fun hHeld => ?_)
        · try dsimp only
          exact ⟨b0, b1⟩
        refine wpAnyH_take (i := 0) (oi := ⟨some 28, _, _, _, _, _⟩) (v := ?_) rfl (by kernel_rfl) (by kernel_rfl) (by kernel_rfl) (fun _ _ _ h => h) (Or.inl ⟨by rfl, ?_⟩) (by assumption) ?_
        rotate_left
        · intro w hSw
          try dsimp only at hSw
          go_simp
          try with_reducible rfl
        simp only [Act.put, List.setIfInBounds_toArray, List.set_cons_zero, List.set_cons_succ]
        refine wpAnyH_take (i := 1) (oi := ⟨some 29, _, _, _, _, _⟩) (v := ?_) rfl (by kernel_rfl) (by kernel_rfl) (by kernel_rfl) (fun _ _ _ h => h) (Or.inl ⟨by rfl, ?_⟩) (by assumption) ?_
        rotate_left
        · intro w hSw
          try dsimp only at hSw
          go_simp
          try with_reducible rfl
        simp only [Act.put, List.setIfInBounds_toArray, List.set_cons_zero, List.set_cons_succ]
        refine wpAnyH_take (i := 2) (oi := ⟨some 30, _, _, _, _, _⟩) (v := ?_) rfl (by kernel_rfl) (by kernel_rfl) (by kernel_rfl) (fun _ _ _ h => h) (Or.inl ⟨by rfl, ?_⟩) (by assumption) ?_
        rotate_left
        · intro w hSw
          try dsimp only at hSw
          go_simp
          try with_reducible rfl
        simp only [Act.put, List.setIfInBounds_toArray, List.set_cons_zero, List.set_cons_succ]
        refine wpAnyH_take (i := 3) (oi := ⟨some 31, _, _, _, _, _⟩) (v := ?_) rfl (by kernel_rfl) (by kernel_rfl) (by kernel_rfl) (fun _ _ _ h => h) (Or.inl ⟨by rfl, ?_⟩) (by assumption) ?_
        rotate_left
        · intro w hSw
          try dsimp only at hSw
          go_simp
          try with_reducible rfl
        simp only [Act.put, List.setIfInBounds_toArray, List.set_cons_zero, List.set_cons_succ]
        refine wpAnyH_take (i := 4) (oi := ⟨some 32, _, _, _, _, _⟩) (v := ?_) rfl (by kernel_rfl) (by kernel_rfl) (by kernel_rfl) (fun _ _ _ h => h) (Or.inl ⟨by rfl, ?_⟩) (by assumption) ?_
        rotate_left
        · intro w hSw
          try dsimp only at hSw
          go_simp
          try with_reducible rfl
        simp only [Act.put, List.setIfInBounds_toArray, List.set_cons_zero, List.set_cons_succ]
        refine wpAnyH_ready (rs := [5]) (by kernel_rfl) (by simp) ?_
        refine AllReadyH.cons rfl (fun K hK => ?_) AllReadyH.nil
        go_simp
        have zb := (alloc_below Y (.cells #[.int .i64 1, .int .i64 1, .int .i64 0, .int .i64 (-1), .int .i64 2] 3)).drew
        have zl : Y.heap.size < (Y.alloc (.cells #[.int .i64 1, .int .i64 1, .int .i64 0, .int .i64 (-1), .int .i64 2] 3)).drew.heap.size := alloc_lt Y (.cells #[.int .i64 1, .int .i64 1, .int .i64 0, .int .i64 (-1), .int .i64 2] 3)
        have zc : ∀ j, j < 5 → ∃ z, (fun _ : Int => True) z ∧ (Y.alloc (.cells #[.int .i64 1, .int .i64 1, .int .i64 0, .int .i64 (-1), .int .i64 2] 3)).drew.cell? ⟨Y.heap.size, j, none⟩ = some (.int .i64 z) := cells5 Y 3 1 1 0 (-1) 2
        have HF := hidP (HA.out.below zb)
        have hne : Y.heap.size ≠ c := by have := HA.out.cur.lt; omega
        have e0 := (zb.cell bl).trans b0
        have e1 := (zb.cell bl).trans b1
        have el : bx < (Y.alloc (.cells #[.int .i64 1, .int .i64 1, .int .i64 0, .int .i64 (-1), .int .i64 2] 3)).drew.heap.size := Nat.lt_of_lt_of_le bl zb.size
        generalize (Y.alloc (.cells #[.int .i64 1, .int .i64 1, .int .i64 0, .int .i64 (-1), .int .i64 2] 3)).drew = Y2 at *
        refine hK.out _ _ ?_ (fun hHeld => ?_)
        · try dsimp only
          exact ⟨e0, e1⟩
        clear hK K
        refine wpAnyH_ready (rs := [6]) (by kernel_rfl) (by simp) ?_
        refine AllReadyH.cons rfl (fun K hK => ?_) AllReadyH.nil
        go_simp
        go_wp2_with (first | (go_at_call 24; refine (l1Int_any (fun _ => True) c a len cap Y.heap.size 5 _ HF.out.cur (by omega) (by omega) zl hne zc).mono ?_; rintro e Y3 ⟨⟨z, _, rfl⟩, hC9, hK9⟩))
        have HG := hidP (HF.out.keep hC9 hK9)
        have f0 := (hK9.cel _ _ el hxc).trans e0
        have f1 := (hK9.cel _ _ el hxc).trans e1
        clear hC9 hK9 zb zl zc
        refine hK.out _ _ ?_ (fun hHeld => ?_)
        · try dsimp only
          exact ⟨f0, f1⟩
        clear hK K
        refine wpAnyH_take (i := 7) (oi := ⟨some 35, _, _, _, _, _⟩) (v := ?_) rfl (by kernel_rfl) (by kernel_rfl) (by kernel_rfl) (fun _ _ _ h => h) (Or.inl ⟨by rfl, ?_⟩) (by assumption) ?_
        rotate_left
        · intro w hSw
          try dsimp only at hSw
          go_simp
          try with_reducible rfl
        simp only [Act.put, List.setIfInBounds_toArray, List.set_cons_zero, List.set_cons_succ]
        refine wpAnyH_take (i := 8) (oi := ⟨some 4, _, _, _, _, _⟩) (v := ?_) rfl (by kernel_rfl) (by kernel_rfl) (by kernel_rfl) (fun _ _ _ h => h) (Or.inl ⟨by rfl, ?_⟩) (by assumption) ?_
        rotate_left
        · intro w hSw
          try dsimp only at hSw
          go_simp
          try with_reducible rfl
        simp only [Act.put, List.setIfInBounds_toArray]
        refine wpAnyH_take (i := 9) (oi := ⟨some 5, _, _, _, _, _⟩) (v := ?_) rfl (by kernel_rfl) (by kernel_rfl) (by kernel_rfl) (fun _ _ _ h => h) (Or.inl ⟨by rfl, ?_⟩) (by assumption) ?_
        rotate_left
        · intro w hSw
          try dsimp only at hSw
          go_simp
          try with_reducible rfl
        simp only [Act.put, List.setIfInBounds_toArray]
        refine wpAnyH_done (by kernel_rfl) ?_ _
        clear hHeld
        go_wp2_with fail
        refine bodyPost_ret (v := .tuple #[.int .i64 q.i, .int .i64 (IntKind.i64.wrap (q.l + z))]) (by simp [results, Try.results20, go_sem]) rfl ⟨⟨_, _, rfl⟩, HG.out.cur, HG.out.kp⟩
    · go_wp2_with fail
      refine (l1Below_any c a len cap 5 _ HD2.out.cur).mono ?_
      rintro e w5 ⟨⟨x, x0, x9, rfl⟩, hC5, hK5⟩
      have HD5 := hidP (HD2.out.keep hC5 hK5)
      clear hC5 hK5 x9
      go_wp2_with fail
      refine (l1Below_any c a len cap 3 _ HD5.out.cur).mono ?_
      rintro e w6 ⟨⟨y, y0, y9, rfl⟩, hC6, hK6⟩
      have HD6 := hidP (HD5.out.keep hC6 hK6)
      clear hC6 hK6 y9
      go_wp2_with fail
      refine bodyPost_ret (v := .tuple #[.int .i64 x, .int .i64 y]) (by simp [results, Try.results20, go_sem]) rfl ⟨⟨x, y, rfl⟩, HD6.out.cur, HD6.out.kp⟩

end Go.Proofs.Ytjenbmiiikeenaa
