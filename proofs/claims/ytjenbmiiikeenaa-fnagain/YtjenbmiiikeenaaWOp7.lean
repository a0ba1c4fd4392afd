/-
  The specification's DrawOpenSession: some desk of at most twelve sessions, and some time.
-/
import Derived.Test.YtjenbmiiikeenaaWDraw7
namespace Go.Proofs.Ytjenbmiiikeenaa
open Go.RowKit

/-- While a law draws: the result's box is w's first new block, the cursor its second. -/
structure OpI (w X : World) (a : Option Addr) (len cap : Nat) : Prop where
  acc : Below w.heap.size w X
  cur : Cur X (w.heap.size + 1) a len cap
  r0 : X.cell? ⟨w.heap.size, 0, none⟩ = some (.slice none 0 0)
  r1 : X.cell? ⟨w.heap.size, 1, none⟩ = some (.int .i64 0)
  rF : ∀ o, X.frozen? ⟨w.heap.size, o, none⟩ = false
theorem OpI.b2 {w X Y : World} {a : Option Addr} {len cap : Nat} (h : OpI w X a len cap) (k : Below (w.heap.size + 2) X Y) : OpI w Y a len cap :=
  ⟨h.acc.trans (k.mono (by omega)), h.cur.keep k, (k.cell (by dsimp only; omega)).trans h.r0, (k.cell (by dsimp only; omega)).trans h.r1, fun o => (k.frozen (by dsimp only; omega)).trans (h.rF o)⟩
theorem OpI.keep {w X Y : World} {a : Option Addr} {len cap : Nat} (h : OpI w X a len cap) (hC : Cur Y (w.heap.size + 1) a len cap) (k : Kp (w.heap.size + 1) X Y) : OpI w Y a len cap :=
  ⟨h.acc.trans (k.low.mono (by omega)), hC, (k.low.cell (by dsimp only; omega)).trans h.r0, (k.low.cell (by dsimp only; omega)).trans h.r1, fun o => (k.low.frozen (by dsimp only; omega)).trans (h.rF o)⟩
theorem OpI.sz {w X : World} {a : Option Addr} {len cap : Nat} (h : OpI w X a len cap) : w.heap.size + 2 ≤ X.heap.size := h.cur.lt
theorem OpI.below {w X Y : World} {a : Option Addr} {len cap : Nat} (h : OpI w X a len cap) (k : Below X.heap.size X Y) : OpI w Y a len cap := h.b2 (k.mono h.sz)
/-- And the desk's box is block e. -/
structure OpD (w X : World) (a : Option Addr) (len cap : Nat) (e : Nat) (b : Option Addr) (n d : Nat) (N : Int) (ls : List Ss) : Prop where
  op : OpI w X a len cap
  he : w.heap.size + 2 ≤ e
  hl : e < X.heap.size
  d0 : X.cell? ⟨e, 0, none⟩ = some (.slice b n d)
  d1 : X.cell? ⟨e, 1, none⟩ = some (.int .i64 N)
  dF : ∀ o, X.frozen? ⟨e, o, none⟩ = false
  own : OwnG KSs 39 X (w.heap.size + 2) (.slice b n d) ls
  ne : ∀ k, (Value.slice b n d).ownBlock = some k → k ≠ e
theorem OpD.keep {w X Y : World} {a : Option Addr} {len cap e : Nat} {b : Option Addr} {n d : Nat} {N : Int} {ls : List Ss} (h : OpD w X a len cap e b n d N ls) (hC : Cur Y (w.heap.size + 1) a len cap) (k : Kp (w.heap.size + 1) X Y) : OpD w Y a len cap e b n d N ls := by
  have h1 := h.he; have h2 := h.hl
  exact ⟨h.op.keep hC k, h.he, Nat.lt_of_lt_of_le h.hl k.big, (k.cel _ _ h2 (by omega)).trans h.d0, (k.cel _ _ h2 (by omega)).trans h.d1, fun o => (k.frz _ _ h2 (by omega)).trans (h.dF o), h.own.kp k (by omega), h.ne⟩
theorem OpD.below {w X Y : World} {a : Option Addr} {len cap e : Nat} {b : Option Addr} {n d : Nat} {N : Int} {ls : List Ss} (h : OpD w X a len cap e b n d N ls) (k : Below X.heap.size X Y) : OpD w Y a len cap e b n d N ls :=
  ⟨h.op.below k, h.he, Nat.lt_of_lt_of_le h.hl k.size, (k.cell h.hl).trans h.d0, (k.cell h.hl).trans h.d1, fun o => (k.frozen h.hl).trans (h.dF o), h.own.later k, h.ne⟩
/-- The box gets another desk. -/
theorem OpD.put {w X : World} {a : Option Addr} {len cap e : Nat} {b : Option Addr} {n d : Nat} {N : Int} {ls : List Ss} (h : OpD w X a len cap e b n d N ls) {b' : Option Addr} {n' d' : Nat} {N' : Int} {ls' : List Ss} (ho : OwnG KSs 39 X (w.heap.size + 2) (.slice b' n' d') ls') (hne : ∀ k, (Value.slice b' n' d').ownBlock = some k → k ≠ e) :
    OpD w ((X.setCell ⟨e, 0, none⟩ (.slice b' n' d')).setCell ⟨e, 1, none⟩ (.int .i64 N')) a len cap e b' n' d' N' ls' := by
  have h1 := h.he
  refine ⟨h.op.b2 (((Below.refl _ _).setCell (by show w.heap.size + 2 ≤ e; omega) _).setCell (by show w.heap.size + 2 ≤ e; omega) _), h.he, by simpa using h.hl, by simp [go_sem, h.d0], by simp [go_sem, h.d1], fun o => frz_set1 (frz_set1 (h.dF o)), OwnG.grown (OwnG.grown ho (grown_cellG _ _ _ _) (fun k hk he => hne k hk (by simpa using he.symm))) (grown_cellG _ _ _ _) (fun k hk he => hne k hk (by simpa using he.symm)), hne⟩
/-- The box gets another row, an append's. -/
theorem OpD.app {w X X1 Y : World} {a : Option Addr} {len cap e : Nat} {b : Option Addr} {n d : Nat} {N : Int} {ls : List Ss} (h : OpD w X a len cap e b n d N ls) (hX : Below X.heap.size X X1) {b' : Option Addr} {n' d' : Nat} {ls' : List Ss} (ho : OwnG KSs 39 Y (w.heap.size + 2) (.slice b' n' d') ls') (hg : X1.grownBy Y (Value.slice b n d).ownBlock) (ht : b' = b ∨ b' = some ⟨X1.heap.size, 0, none⟩) :
    OpD w (Y.setCell ⟨e, 0, none⟩ (.slice b' n' d')) a len cap e b' n' d' N ls' ∧ Y.cell? ⟨e, 0, none⟩ = some (.slice b n d) ∧ Y.frozen? ⟨e, 0, none⟩ = false := by
  have h1 := h.he; have h2 := h.hl; have h3 := hX.size
  have h' := h.below hX
  have hb : Below (w.heap.size + 2) X1 Y := (Below.refl _ _).grown hg h'.op.sz (fun k hk => (OwnG.lt h.own k hk).1)
  have hne : ∀ k, (Value.slice b' n' d').ownBlock = some k → k ≠ e := fun k hk he => by
    rcases ht with ht | ht
    · rw [ht] at hk; exact h.ne k ((ob_len b n d n' d').trans hk) he
    · rw [ht, ob_some, Option.some.injEq] at hk; omega
  have c0 := cell_grown hg h'.d0 h.ne
  have c1 := cell_grown hg h'.d1 h.ne
  have cF : ∀ o, Y.frozen? ⟨e, o, none⟩ = false := fun o => frz_grown hg h'.hl (h'.dF o) h.ne
  refine ⟨⟨(h'.op.b2 hb).b2 ((Below.refl _ _).setCell (by show w.heap.size + 2 ≤ e; omega) _), h.he, by have := hg.size; simp; have := h'.hl; omega, by simp [go_sem, c0], by simp [go_sem, c1], fun o => frz_set1 (cF o), OwnG.grown ho (grown_cellG _ _ _ _) (fun k hk he => hne k hk (by simpa using he.symm)), hne⟩, c0, cF 0⟩
theorem OpI.fin {w X : World} {a : Option Addr} {len cap : Nat} (h : OpI w X a len cap) {b : Option Addr} {n d : Nat} {ls : List Ss} (ho : OwnG KSs 39 X (w.heap.size + 2) (.slice b n d) ls) (u v : Value) :
    OwnG KSs 39 ((X.setCell ⟨w.heap.size, 0, none⟩ u).setCell ⟨w.heap.size, 1, none⟩ v) w.heap.size (.slice b n d) ls ∧ Below w.heap.size w ((X.setCell ⟨w.heap.size, 0, none⟩ u).setCell ⟨w.heap.size, 1, none⟩ v) :=
  ⟨OwnG.mono (OwnG.grown (OwnG.grown ho (grown_cellG _ _ _ _) (OwnG.ne_of ho (by omega))) (grown_cellG _ _ _ _) (OwnG.ne_of ho (by omega))) (by omega), (h.acc.setCell (Nat.le_refl _) _).setCell (Nat.le_refl _) _⟩

set_option maxRecDepth 10000 in
set_option maxHeartbeats 4000000 in
theorem drawOpen_any (a : Option Addr) (len cap : Nat) (w : World) (hBy : Bytes w a len) (hl : len ≤ 1048576) :
    Calls Try.prog 13 #[.slice a len cap] w fun e w' => ∃ b n d N ls u, e = .returned (.tuple #[.agg #[.slice b n d, .int .i64 N], .int .i64 u]) ∧ n = ls.length ∧ n ≤ 12 ∧ OwnG KSs 39 w' w.heap.size (.slice b n d) ls ∧ Below w.heap.size w w' := by
  have HBy := hidP hBy
  clear hBy
  go_enter Try.func13, Try.ntmps13
  go_wp2_with fail
  have zb1 := alloc_below w (.cells #[.slice none 0 0, .int .i64 0] 26)
  have zs1 : (w.alloc (.cells #[.slice none 0 0, .int .i64 0] 26)).heap.size = w.heap.size + 1 := by simp
  have q0 : (w.alloc (.cells #[.slice none 0 0, .int .i64 0] 26)).cell? ⟨w.heap.size, 0, none⟩ = some (.slice none 0 0) := by simp [go_sem]
  have q1 : (w.alloc (.cells #[.slice none 0 0, .int .i64 0] 26)).cell? ⟨w.heap.size, 1, none⟩ = some (.int .i64 0) := by simp [go_sem]
  have qF : ∀ o, (w.alloc (.cells #[.slice none 0 0, .int .i64 0] 26)).frozen? ⟨w.heap.size, o, none⟩ = false := fun o => by simp [go_sem]
  generalize w.alloc (.cells #[.slice none 0 0, .int .i64 0] 26) = W1 at *
  have hB1 : Bytes W1 a len := fun j hj => by
    obtain ⟨p, o, v, ha, hp, cv, v0, v9⟩ := HBy.out j hj
    exact ⟨p, o, v, ha, by omega, (zb1.cell hp).trans cv, v0, v9⟩
  refine (l1New_any a len cap W1 hB1 hl).mono ?_
  rintro e w2 ⟨rfl, hC2, hb2, hs2⟩
  rw [zs1] at hC2
  have HO2 := hidP (show OpI w w2 a len cap from ⟨zb1.trans (hb2.mono zb1.size), hC2, (hb2.cell (by dsimp only; omega)).trans q0, (hb2.cell (by dsimp only; omega)).trans q1, fun o => (hb2.frozen (by dsimp only; omega)).trans (qF o)⟩)
  rw [zs1]
  clear hB1 hC2 hb2 hs2 q0 q1 qF zb1 zs1
  go_wp2_with fail
  refine (l1Size_any a len cap 24 (by omega) hl _).mono ?_
  rintro e w' ⟨⟨sz, sz0, sz9, rfl⟩, hw'⟩
  rw [hw']
  clear hw' w'
  go_wp2_with fail
  refine (l7Draw_any (w.heap.size + 1) a len cap sz _ HO2.out.cur sz0 (by omega)).mono ?_
  rintro e w3 ⟨b, n, d, N, ls, rfl, hn, h12, ho3, hC3, hK3⟩
  have HO3 := hidP (HO2.out.keep hC3 hK3)
  have HW3 := hidP (OwnG.mono ho3 HO2.out.sz)
  have HN := hidP hn
  clear hn ho3 hC3 hK3 sz0 sz9
  go_wp2_with fail
  have HD4 := hidP (show OpD w (w3.alloc (.cells #[.slice b n d, .int .i64 N] 26)) a len cap w3.heap.size b n d N ls from by
    have zb := alloc_below w3 (.cells #[.slice b n d, .int .i64 N] 26)
    exact ⟨HO3.out.below zb, HO3.out.sz, alloc_lt _ _, by simp [go_sem], by simp [go_sem], fun o => by simp [go_sem], HW3.out.later zb, fun k hk => Nat.ne_of_lt (OwnG.lt HW3.out k hk).2⟩)
  generalize w3.alloc (.cells #[.slice b n d, .int .i64 N] 26) = W4 at *
  refine (l1Once_any (w.heap.size + 1) a len cap 20 _ HD4.out.op.cur).mono ?_
  rintro e w5 ⟨⟨B, rfl⟩, hC5, hK5⟩
  have HD5 := hidP (HD4.out.keep hC5 hK5)
  have he : w3.heap.size = w3.heap.size := rfl
  clear hC5 hK5 HD4 HO2 HO3 HW3 he
  cases B
  · go_wp2_with fail
    have HD5d := hidP (HD5.out.below (Below.refl _ _).drew)
    refine wp_region_held_drew (S := (fun X => X.cell? ⟨w3.heap.size, 0, none⟩ = some (.slice b n d) ∧ X.cell? ⟨w3.heap.size, 1, none⟩ = some (.int .i64 N))) (by kernel_rfl) ?_ (fun hHeld => ?_)
    · try dsimp only
      exact ⟨HD5d.out.d0, HD5d.out.d1⟩
    refine wpAnyH_take (i := 0) (oi := ⟨some 28, _, _, _, _, _⟩) (v := ?_) rfl (by kernel_rfl) (by kernel_rfl) (by kernel_rfl) (fun _ _ _ h => h) (Or.inl ⟨by rfl, ?_⟩) (by assumption) ?_
    rotate_left
    · intro w hSw
      try dsimp only at hSw
      go_simp
      try with_reducible rfl
    simp only [Act.put, List.setIfInBounds_toArray, List.set_cons_zero, List.set_cons_succ]
    refine wpAnyH_take (i := 1) (oi := ⟨some 29, _, _, _, _, _⟩) (v := ?_) rfl (by kernel_rfl) (by kernel_rfl) (by kernel_rfl) (fun _ _ _ h => h) (Or.inl ⟨by rfl, ?_⟩) (by assumption) ?_
    rotate_left
    · intro w hSw
      try dsimp only at hSw
      go_simp
      try with_reducible rfl
    simp only [Act.put, List.setIfInBounds_toArray, List.set_cons_zero, List.set_cons_succ]
    refine wpAnyH_ready (rs := [2]) (by kernel_rfl) (by simp) ?_
    refine AllReadyH.cons rfl (fun K hK => ?_) AllReadyH.nil
    go_simp
    have zb := (alloc_below w5 (.cells #[.int .i64 0, .int .i64 5, .int .i64 1000000000, .int .i64 1000000001, .int .i64 (-1)] 3)).drew
    have zl : w5.heap.size < (w5.alloc (.cells #[.int .i64 0, .int .i64 5, .int .i64 1000000000, .int .i64 1000000001, .int .i64 (-1)] 3)).drew.heap.size := alloc_lt w5 (.cells #[.int .i64 0, .int .i64 5, .int .i64 1000000000, .int .i64 1000000001, .int .i64 (-1)] 3)
    have zc : ∀ j, j < 5 → ∃ z, (fun _ : Int => True) z ∧ (w5.alloc (.cells #[.int .i64 0, .int .i64 5, .int .i64 1000000000, .int .i64 1000000001, .int .i64 (-1)] 3)).drew.cell? ⟨w5.heap.size, j, none⟩ = some (.int .i64 z) := cells5 w5 3 0 5 1000000000 1000000001 (-1)
    have HE2 := hidP (HD5.out.below zb)
    have hne : w5.heap.size ≠ w.heap.size + 1 := by have := HD5.out.op.sz; omega
    generalize (w5.alloc (.cells #[.int .i64 0, .int .i64 5, .int .i64 1000000000, .int .i64 1000000001, .int .i64 (-1)] 3)).drew = v2 at *
    refine hK.out _ _ ?_ (fun hHeld => ?_)
    · try dsimp only
      exact ⟨HE2.out.d0, HE2.out.d1⟩
    clear hK K
    refine wpAnyH_ready (rs := [3]) (by kernel_rfl) (by simp) ?_
    refine AllReadyH.cons rfl (fun K hK => ?_) AllReadyH.nil
    go_simp
    go_wp2_with (first | (go_at_call 24; refine (l1Int_any (fun _ => True) (w.heap.size + 1) a len cap w5.heap.size 5 _ HE2.out.op.cur (by omega) (by omega) zl hne zc).mono ?_; rintro e v3 ⟨⟨z, _, rfl⟩, hC3, hK3⟩))
    have HE3 := hidP (HE2.out.keep hC3 hK3)
    clear hC3 hK3 zb zl zc
    refine hK.out _ _ ?_ (fun hHeld => ?_)
    · try dsimp only
      exact ⟨HE3.out.d0, HE3.out.d1⟩
    clear hK K
    refine wpAnyH_ready (rs := [4]) (by kernel_rfl) (by simp) ?_
    refine AllReadyH.cons rfl (fun K hK => ?_) AllReadyH.nil
    have q0 := HE3.out.op.r0
    have q1 := HE3.out.op.r1
    have qF := HE3.out.op.rF
    have hxe : w3.heap.size ≠ w.heap.size := by have := HE3.out.he; omega
    go_simp
    refine hK.out _ _ ?_ (fun hHeld => ?_)
    · try dsimp only
      exact ⟨cell_set1 (cell_set1 HE3.out.d0 hxe) hxe, cell_set1 (cell_set1 HE3.out.d1 hxe) hxe⟩
    clear hK K
    refine wpAnyH_take (i := 5) (oi := ⟨some 3, _, _, _, _, _⟩) (v := ?_) rfl (by kernel_rfl) (by kernel_rfl) (by kernel_rfl) (fun _ _ _ h => h) (Or.inl ⟨by rfl, ?_⟩) (by assumption) ?_
    rotate_left
    · intro w hSw
      try dsimp only at hSw
      go_simp
      try with_reducible rfl
    simp only [Act.put, List.setIfInBounds_toArray]
    refine wpAnyH_done (by kernel_rfl) ?_ _
    clear hHeld
    go_wp2_with fail
    refine bodyPost_ret (v := .tuple #[.agg #[.slice b n d, .int .i64 N], .int .i64 z]) (by simp [results, Try.results13, go_sem, q0, q1]) rfl ⟨b, n, d, N, ls, z, rfl, HN.out, h12, (HE3.out.op.fin HE3.out.own _ _).1, (HE3.out.op.fin HE3.out.own _ _).2⟩
  · have p0 := HD5.out.d0
    have p1 := HD5.out.d1
    have pF := HD5.out.dF
    go_wp2_with fail
    have HD6 := hidP (HD5.out.put (b' := none) (n' := 0) (d' := 0) (N' := 20) (ls' := []) (own_noneG KSs _ _ _) (fun k hk => by cases hk))
    generalize (w5.setCell ⟨w3.heap.size, 0, none⟩ (.slice none 0 0)).setCell ⟨w3.heap.size, 1, none⟩ (.int .i64 20) = W6 at *
    clear p0 p1 pF HD5
    go_loopw [6] (fun t6 wr => ∃ (i : Nat) (b : Option Addr) (d : Nat) (ls : List Ss), t6 = .int .i64 i ∧ i ≤ 12 ∧ i = ls.length ∧ OpD w wr a len cap w3.heap.size b i d 20 ls) (fun t6 _ => 12 - (intOf t6).toNat)
    case atStart => exact ⟨0, none, 0, [], rfl, by omega, rfl, HD6.out⟩
    case round =>
      obtain ⟨i, b, d, ls, rfl, hi, hil, hD⟩ := hrel
      have HL := hidP hil
      have HD7 := hidP hD
      clear hil hD HD6 h12 HN
      by_cases hlt : i < 12
      · have g0 : decide ((i : Int) < 12) = true := decide_eq_true (by omega)
        have p0 := HD7.out.d0
        go_wp2_with (at_builtin; refine stp ?_)
        unfold Stp
        have one : OwnG KSs 39 (wr.alloc (.cells #[.int .i64 ((i : Int) + 1), .int .i64 0, .string ⟨#[]⟩, .int .i64 0] 39)) 0 (.slice (some ⟨wr.heap.size, 0, none⟩) 1 1) [(⟨(i : Int) + 1, 0, ⟨#[]⟩, 0⟩ : Ss)] := own_oneG KSs wr 0 39 (⟨(i : Int) + 1, 0, ⟨#[]⟩, 0⟩ : Ss) (Nat.zero_le _)
        have ONE := hidP one
        have zb := alloc_below wr (.cells #[.int .i64 ((i : Int) + 1), .int .i64 0, .string ⟨#[]⟩, .int .i64 0] 39)
        have HZ := hidP zb
        have HOw := hidP (OwnG.later HD7.out.own zb)
        clear one zb p0
        generalize wr.alloc (.cells #[.int .i64 ((i : Int) + 1), .int .i64 0, .string ⟨#[]⟩, .int .i64 0] 39) = W8 at *
        refine wpList_appG Try.tySs _ rfl (.tmp 21) (.tmp 25) 24 rfl (w.heap.size + 2) b i d 1 ls [(⟨(i : Int) + 1, 0, ⟨#[]⟩, 0⟩ : Ss)] (.slice (some ⟨wr.heap.size, 0, none⟩) 1 1) rfl HL.out rfl HOw.out rfl (src_rowG Try.tySs.1 1 1 (by show 0 < 4; omega) rfl ONE.out.row (fun h => by cases h)) (by omega) (Nat.le_trans HD7.out.op.sz HZ.out.size) ?_
        intro a9 c9 w9 ho9 hg9 ht9
        have HA := hidP (HD7.out.app HZ.out ho9 hg9 ht9)
        have p0 := HA.out.2.1
        have pF := HA.out.2.2
        clear ho9 hg9 ht9
        go_wp2_with fail
        go_roundw
        case rel => exact ⟨i + 1, a9, c9, _, by go_num, by omega, by rw [List.length_append, ← HL.out]; rfl, HA.out.1⟩
        case measure => simp [intOf]; omega
      · have hi12 : i = 12 := by omega
        have g0 : decide ((i : Int) < 12) = false := decide_eq_false (by omega)
        have HI := hidP hi12
        clear hi12
        go_wp2_with fail
        have HD7d := hidP (HD7.out.below (Below.refl _ _).drew)
        refine wp_region_held_drew (S := (fun X => X.cell? ⟨w3.heap.size, 0, none⟩ = some (.slice b i d) ∧ X.cell? ⟨w3.heap.size, 1, none⟩ = some (.int .i64 20))) (by kernel_rfl) ?_ (fun hHeld => ?_)
        · try dsimp only
          exact ⟨HD7d.out.d0, HD7d.out.d1⟩
        refine wpAnyH_take (i := 0) (oi := ⟨some 28, _, _, _, _, _⟩) (v := ?_) rfl (by kernel_rfl) (by kernel_rfl) (by kernel_rfl) (fun _ _ _ h => h) (Or.inl ⟨by rfl, ?_⟩) (by assumption) ?_
        rotate_left
        · intro w hSw
          try dsimp only at hSw
          go_simp
          try with_reducible rfl
        simp only [Act.put, List.setIfInBounds_toArray, List.set_cons_zero, List.set_cons_succ]
        refine wpAnyH_take (i := 1) (oi := ⟨some 29, _, _, _, _, _⟩) (v := ?_) rfl (by kernel_rfl) (by kernel_rfl) (by kernel_rfl) (fun _ _ _ h => h) (Or.inl ⟨by rfl, ?_⟩) (by assumption) ?_
        rotate_left
        · intro w hSw
          try dsimp only at hSw
          go_simp
          try with_reducible rfl
        simp only [Act.put, List.setIfInBounds_toArray, List.set_cons_zero, List.set_cons_succ]
        refine wpAnyH_ready (rs := [2]) (by kernel_rfl) (by simp) ?_
        refine AllReadyH.cons rfl (fun K hK => ?_) AllReadyH.nil
        go_simp
        have zb := (alloc_below wr (.cells #[.int .i64 0, .int .i64 5, .int .i64 1000000000, .int .i64 1000000001, .int .i64 (-1)] 3)).drew
        have zl : wr.heap.size < (wr.alloc (.cells #[.int .i64 0, .int .i64 5, .int .i64 1000000000, .int .i64 1000000001, .int .i64 (-1)] 3)).drew.heap.size := alloc_lt wr (.cells #[.int .i64 0, .int .i64 5, .int .i64 1000000000, .int .i64 1000000001, .int .i64 (-1)] 3)
        have zc : ∀ j, j < 5 → ∃ z, (fun _ : Int => True) z ∧ (wr.alloc (.cells #[.int .i64 0, .int .i64 5, .int .i64 1000000000, .int .i64 1000000001, .int .i64 (-1)] 3)).drew.cell? ⟨wr.heap.size, j, none⟩ = some (.int .i64 z) := cells5 wr 3 0 5 1000000000 1000000001 (-1)
        have HE2 := hidP (HD7.out.below zb)
        have hne : wr.heap.size ≠ w.heap.size + 1 := by have := HD7.out.op.sz; omega
        generalize (wr.alloc (.cells #[.int .i64 0, .int .i64 5, .int .i64 1000000000, .int .i64 1000000001, .int .i64 (-1)] 3)).drew = v2 at *
        refine hK.out _ _ ?_ (fun hHeld => ?_)
        · try dsimp only
          exact ⟨HE2.out.d0, HE2.out.d1⟩
        clear hK K
        refine wpAnyH_ready (rs := [3]) (by kernel_rfl) (by simp) ?_
        refine AllReadyH.cons rfl (fun K hK => ?_) AllReadyH.nil
        go_simp
        go_wp2_with (first | (go_at_call 24; refine (l1Int_any (fun _ => True) (w.heap.size + 1) a len cap wr.heap.size 5 _ HE2.out.op.cur (by omega) (by omega) zl hne zc).mono ?_; rintro e v3 ⟨⟨z, _, rfl⟩, hC3, hK3⟩))
        have HE3 := hidP (HE2.out.keep hC3 hK3)
        clear hC3 hK3 zb zl zc
        refine hK.out _ _ ?_ (fun hHeld => ?_)
        · try dsimp only
          exact ⟨HE3.out.d0, HE3.out.d1⟩
        clear hK K
        refine wpAnyH_ready (rs := [4]) (by kernel_rfl) (by simp) ?_
        refine AllReadyH.cons rfl (fun K hK => ?_) AllReadyH.nil
        have q0 := HE3.out.op.r0
        have q1 := HE3.out.op.r1
        have qF := HE3.out.op.rF
        have hxe : w3.heap.size ≠ w.heap.size := by have := HE3.out.he; omega
        go_simp
        refine hK.out _ _ ?_ (fun hHeld => ?_)
        · try dsimp only
          exact ⟨cell_set1 (cell_set1 HE3.out.d0 hxe) hxe, cell_set1 (cell_set1 HE3.out.d1 hxe) hxe⟩
        clear hK K
        refine wpAnyH_take (i := 5) (oi := ⟨some 3, _, _, _, _, _⟩) (v := ?_) rfl (by kernel_rfl) (by kernel_rfl) (by kernel_rfl) (fun _ _ _ h => h) (Or.inl ⟨by rfl, ?_⟩) (by assumption) ?_
        rotate_left
        · intro w hSw
          try dsimp only at hSw
          go_simp
          try with_reducible rfl
        simp only [Act.put, List.setIfInBounds_toArray]
        refine wpAnyH_done (by kernel_rfl) ?_ _
        clear hHeld
        go_wp2_with fail
        refine bodyPost_ret (v := .tuple #[.agg #[.slice b i d, .int .i64 20], .int .i64 z]) (by simp [results, Try.results13, go_sem, q0, q1]) rfl ⟨b, i, d, 20, ls, z, rfl, HL.out, (by have := HI.out; omega), (HE3.out.op.fin HE3.out.own _ _).1, (HE3.out.op.fin HE3.out.own _ _).2⟩

end Go.Proofs.Ytjenbmiiikeenaa
