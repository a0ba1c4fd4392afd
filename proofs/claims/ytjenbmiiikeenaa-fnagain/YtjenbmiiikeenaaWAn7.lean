/-
  The specification's DrawAnswer: some desk of at most twelve sessions, some Id, number, reply and time.
-/
import Derived.Test.YtjenbmiiikeenaaWAsk7
import Derived.Test.YtjenbmiiikeenaaWOp7
import Derived.Laws.BytesArg
namespace Go.Proofs.Ytjenbmiiikeenaa
open Go.RowKit

def KB : Kd Int := ⟨1, fun x => [.int .u8 x], fun _ => rfl, fun x u h => by
  simp at h; subst h; rfl⟩
theorem Try.tyB : GTy KB (.int .u8 0) 1 Try.prog 22 5 := ⟨Try.underlying22, by kernel_rfl, rfl, by omega⟩
theorem cvtN (w : World) (base g m : Nat) (h : w.ownsRow base 5 1 (.slice (some ⟨g, 0, none⟩) m m) m (madeCells (Value.int .u8 0).cells (m * 1)).toList) : (convert 22 9 (.slice (some ⟨g, 0, none⟩) m m)).run Try.prog w = .ok (.string (strOfNums (List.replicate m 0))) w :=
  run_convert_bytes_arg _ 22 5 Try.underlying22 Try.underlying5 g 0 m m (List.replicate m 0) (by simp) (fun i hi => by
    have hm := made_gen KB 0 (by show 0 < 1; omega) (.int .u8 0) rfl m
    rw [show m * 1 = m * KB.k from rfl, hm] at h
    have h2 := World.ownsRow.cellAt h i (by omega)
    have h3 := gflat_at KB (List.replicate m 0) i 0 (by rw [List.getElem?_replicate, if_pos hi]) 0 (by show 0 < 1; omega)
    rw [show i * KB.k + 0 = i from Nat.mul_one i] at h3
    rw [Nat.zero_add, h2, h3, List.getD_eq_getElem?_getD, List.getElem?_replicate, if_pos hi]
    rfl) 9 Try.underlying9
set_option maxRecDepth 10000 in
set_option maxHeartbeats 4000000 in
theorem drawAnswer_any (a : Option Addr) (len cap : Nat) (w : World) (hBy : Bytes w a len) (hl : len ≤ 1048576) :
    Calls Try.prog 6 #[.slice a len cap] w fun e w' => ∃ b n d N ls id s rp u, e = .returned (.tuple #[.agg #[.slice b n d, .int .i64 N], .int .i64 id, .int .i64 s, .string rp, .int .i64 u]) ∧ n = ls.length ∧ n ≤ 12 ∧ OwnG KSs 39 w' w.heap.size (.slice b n d) ls ∧ Below w.heap.size w w' := by
  obtain ⟨i0, hi, hz0, hz1, hz2⟩ := info_parts Try.tyB.2.1
  have HBy := hidP hBy
  clear hBy
  go_enter Try.func6, Try.ntmps6
  go_wp2_with fail
  have zb1 := alloc_below w (.cells #[.slice none 0 0, .int .i64 0] 26)
  have zs1 : (w.alloc (.cells #[.slice none 0 0, .int .i64 0] 26)).heap.size = w.heap.size + 1 := by simp
  have q0 : (w.alloc (.cells #[.slice none 0 0, .int .i64 0] 26)).cell? ⟨w.heap.size, 0, none⟩ = some (.slice none 0 0) := by simp [go_sem]
  have q1 : (w.alloc (.cells #[.slice none 0 0, .int .i64 0] 26)).cell? ⟨w.heap.size, 1, none⟩ = some (.int .i64 0) := by simp [go_sem]
  have qF : ∀ o, (w.alloc (.cells #[.slice none 0 0, .int .i64 0] 26)).frozen? ⟨w.heap.size, o, none⟩ = false := fun o => by simp [go_sem]
  generalize w.alloc (.cells #[.slice none 0 0, .int .i64 0] 26) = W1 at *
  have hB1 : Bytes W1 a len := fun j hj => by
    obtain ⟨p, o, v, ha, hp, cv, v0, v9⟩ := HBy.out j hj
    exact ⟨p, o, v, ha, by omega, (zb1.cell hp).trans cv, v0, v9⟩
  refine (l1New_any a len cap W1 hB1 hl).mono ?_
  rintro e w2 ⟨rfl, hC2, hb2, hs2⟩
  rw [zs1] at hC2
  have HO2 := hidP (show OpI w w2 a len cap from ⟨zb1.trans (hb2.mono zb1.size), hC2, (hb2.cell (by dsimp only; omega)).trans q0, (hb2.cell (by dsimp only; omega)).trans q1, fun o => (hb2.frozen (by dsimp only; omega)).trans (qF o)⟩)
  rw [zs1]
  clear hB1 hC2 hb2 hs2 q0 q1 qF zb1 zs1
  go_wp2_with fail
  refine (l1Size_any a len cap 16 (by omega) hl _).mono ?_
  rintro e w' ⟨⟨sz, sz0, sz9, rfl⟩, hw'⟩
  rw [hw']
  clear hw' w'
  go_wp2_with fail
  refine (l7Draw_any (w.heap.size + 1) a len cap sz _ HO2.out.cur sz0 (by omega)).mono ?_
  rintro e w3 ⟨b, n, d, N, ls, rfl, hn, h12, ho3, hC3, hK3⟩
  have HO3 := hidP (HO2.out.keep hC3 hK3)
  have HW3 := hidP (OwnG.mono ho3 HO2.out.sz)
  have HN := hidP hn
  clear hn ho3 hC3 hK3 sz0 sz9
  go_wp2_with fail
  have HD4 := hidP (show OpD w (w3.alloc (.cells #[.slice b n d, .int .i64 N] 26)) a len cap w3.heap.size b n d N ls from by
    have zb := alloc_below w3 (.cells #[.slice b n d, .int .i64 N] 26)
    exact ⟨HO3.out.below zb, HO3.out.sz, alloc_lt _ _, by simp [go_sem], by simp [go_sem], fun o => by simp [go_sem], HW3.out.later zb, fun k hk => Nat.ne_of_lt (OwnG.lt HW3.out k hk).2⟩)
  generalize w3.alloc (.cells #[.slice b n d, .int .i64 N] 26) = W4 at *
  have p0 := HD4.out.d0
  have p1 := HD4.out.d1
  go_wp2_with fail
  refine (l7Asked_any (w.heap.size + 1) a len cap (w.heap.size + 2) b n d N ls _ HD4.out.op.cur (by omega) HD4.out.op.sz HD4.out.own h12).mono ?_
  rintro e w5 ⟨⟨id, s, rfl⟩, hC5, hK5⟩
  have HD5 := hidP (HD4.out.keep hC5 hK5)
  clear hC5 hK5 HD4 HO2 HO3 HW3 p0 p1
  go_wp2_with fail
  have zb := alloc_below w5 (.cells #[.string ⟨#[111, 107]⟩, .string ⟨#[]⟩, .string ⟨#[101, 114, 114, 111, 114, 32, 53]⟩] 9)
  have zl := alloc_lt w5 (.cells #[.string ⟨#[111, 107]⟩, .string ⟨#[]⟩, .string ⟨#[101, 114, 114, 111, 114, 32, 53]⟩] 9)
  have zc := cellsT w5 9 ⟨#[111, 107]⟩ ⟨#[]⟩ ⟨#[101, 114, 114, 111, 114, 32, 53]⟩
  have HD6 := hidP (HD5.out.below zb)
  have hne : w5.heap.size ≠ w.heap.size + 1 := by have := HD5.out.op.sz; omega
  generalize w5.alloc (.cells #[.string ⟨#[111, 107]⟩, .string ⟨#[]⟩, .string ⟨#[101, 114, 114, 111, 114, 32, 53]⟩] 9) = w6 at *
  refine (l1Str_any (w.heap.size + 1) a len cap w5.heap.size 3 _ HD6.out.op.cur (by omega) (by omega) zl hne zc).mono ?_
  rintro e w7 ⟨⟨rp, rfl⟩, hC7, hK7⟩
  have HD7 := hidP (HD6.out.keep hC7 hK7)
  clear hC7 hK7 zb zl zc HD5 HD6 hne
  go_wp2_with fail
  refine (l1Once_any (w.heap.size + 1) a len cap 20 _ HD7.out.op.cur).mono ?_
  rintro e w8 ⟨⟨Bo, rfl⟩, hC8, hK8⟩
  have HD8 := hidP (HD7.out.keep hC8 hK8)
  clear hC8 hK8 HD7
  cases Bo
  · go_wp2_with fail
    have HD8d := hidP (HD8.out.below (Below.refl _ _).drew)
    refine wp_region_held_drew (S := (fun X => X.cell? ⟨w3.heap.size, 0, none⟩ = some (.slice b n d) ∧ X.cell? ⟨w3.heap.size, 1, none⟩ = some (.int .i64 N))) (by kernel_rfl) ?_ (fun hHeld => ?_)
    · try dsimp only
      exact ⟨HD8d.out.d0, HD8d.out.d1⟩
    refine wpAnyH_take (i := 0) (oi := ⟨some 34, _, _, _, _, _⟩) (v := ?_) rfl (by kernel_rfl) (by kernel_rfl) (by kernel_rfl) (fun _ _ _ h => h) (Or.inl ⟨by rfl, ?_⟩) (by assumption) ?_
    rotate_left
    · intro w hSw
      try dsimp only at hSw
      go_simp
      try with_reducible rfl
    simp only [Act.put, List.setIfInBounds_toArray, List.set_cons_zero, List.set_cons_succ]
    refine wpAnyH_take (i := 1) (oi := ⟨some 35, _, _, _, _, _⟩) (v := ?_) rfl (by kernel_rfl) (by kernel_rfl) (by kernel_rfl) (fun _ _ _ h => h) (Or.inl ⟨by rfl, ?_⟩) (by assumption) ?_
    rotate_left
    · intro w hSw
      try dsimp only at hSw
      go_simp
      try with_reducible rfl
    simp only [Act.put, List.setIfInBounds_toArray, List.set_cons_zero, List.set_cons_succ]
    refine wpAnyH_take (i := 2) (oi := ⟨some 36, _, _, _, _, _⟩) (v := ?_) rfl (by kernel_rfl) (by kernel_rfl) (by kernel_rfl) (fun _ _ _ h => h) (Or.inl ⟨by rfl, ?_⟩) (by assumption) ?_
    rotate_left
    · intro w hSw
      try dsimp only at hSw
      go_simp
      try with_reducible rfl
    simp only [Act.put, List.setIfInBounds_toArray, List.set_cons_zero, List.set_cons_succ]
    refine wpAnyH_take (i := 3) (oi := ⟨some 37, _, _, _, _, _⟩) (v := ?_) rfl (by kernel_rfl) (by kernel_rfl) (by kernel_rfl) (fun _ _ _ h => h) (Or.inl ⟨by rfl, ?_⟩) (by assumption) ?_
    rotate_left
    · intro w hSw
      try dsimp only at hSw
      go_simp
      try with_reducible rfl
    simp only [Act.put, List.setIfInBounds_toArray, List.set_cons_zero, List.set_cons_succ]
    refine wpAnyH_take (i := 4) (oi := ⟨some 38, _, _, _, _, _⟩) (v := ?_) rfl (by kernel_rfl) (by kernel_rfl) (by kernel_rfl) (fun _ _ _ h => h) (Or.inl ⟨by rfl, ?_⟩) (by assumption) ?_
    rotate_left
    · intro w hSw
      try dsimp only at hSw
      go_simp
      try with_reducible rfl
    simp only [Act.put, List.setIfInBounds_toArray, List.set_cons_zero, List.set_cons_succ]
    refine wpAnyH_ready (rs := [5]) (by kernel_rfl) (by simp) ?_
    refine AllReadyH.cons rfl (fun K hK => ?_) AllReadyH.nil
    go_simp
    have zb := (alloc_below w8 (.cells #[.int .i64 0, .int .i64 50, .int .i64 500, .int .i64 1000000001] 3)).drew
    have zl : w8.heap.size < (w8.alloc (.cells #[.int .i64 0, .int .i64 50, .int .i64 500, .int .i64 1000000001] 3)).drew.heap.size := alloc_lt w8 (.cells #[.int .i64 0, .int .i64 50, .int .i64 500, .int .i64 1000000001] 3)
    have zc : ∀ j, j < 4 → ∃ z, (fun _ : Int => True) z ∧ (w8.alloc (.cells #[.int .i64 0, .int .i64 50, .int .i64 500, .int .i64 1000000001] 3)).drew.cell? ⟨w8.heap.size, j, none⟩ = some (.int .i64 z) := cells4 w8 3 0 50 500 1000000001
    have HE2 := hidP (HD8.out.below zb)
    have hne : w8.heap.size ≠ w.heap.size + 1 := by have := HD8.out.op.sz; omega
    generalize (w8.alloc (.cells #[.int .i64 0, .int .i64 50, .int .i64 500, .int .i64 1000000001] 3)).drew = v2 at *
    refine hK.out _ _ ?_ (fun hHeld => ?_)
    · try dsimp only
      exact ⟨HE2.out.d0, HE2.out.d1⟩
    clear hK K
    refine wpAnyH_ready (rs := [6]) (by kernel_rfl) (by simp) ?_
    refine AllReadyH.cons rfl (fun K hK => ?_) AllReadyH.nil
    go_simp
    go_wp2_with (first | (go_at_call 24; refine (l1Int_any (fun _ => True) (w.heap.size + 1) a len cap w8.heap.size 4 _ HE2.out.op.cur (by omega) (by omega) zl hne zc).mono ?_; rintro e v3 ⟨⟨z, _, rfl⟩, hC3, hK3⟩))
    have HE3 := hidP (HE2.out.keep hC3 hK3)
    clear hC3 hK3 zb zl zc
    refine hK.out _ _ ?_ (fun hHeld => ?_)
    · try dsimp only
      exact ⟨HE3.out.d0, HE3.out.d1⟩
    clear hK K
    refine wpAnyH_ready (rs := [7]) (by kernel_rfl) (by simp) ?_
    refine AllReadyH.cons rfl (fun K hK => ?_) AllReadyH.nil
    have q0 := HE3.out.op.r0
    have q1 := HE3.out.op.r1
    have qF := HE3.out.op.rF
    have hxe : w3.heap.size ≠ w.heap.size := by have := HE3.out.he; omega
    go_simp
    refine hK.out _ _ ?_ (fun hHeld => ?_)
    · try dsimp only
      exact ⟨cell_set1 (cell_set1 HE3.out.d0 hxe) hxe, cell_set1 (cell_set1 HE3.out.d1 hxe) hxe⟩
    clear hK K
    refine wpAnyH_take (i := 8) (oi := ⟨some 3, _, _, _, _, _⟩) (v := ?_) rfl (by kernel_rfl) (by kernel_rfl) (by kernel_rfl) (fun _ _ _ h => h) (Or.inl ⟨by rfl, ?_⟩) (by assumption) ?_
    rotate_left
    · intro w hSw
      try dsimp only at hSw
      go_simp
      try with_reducible rfl
    simp only [Act.put, List.setIfInBounds_toArray]
    refine wpAnyH_take (i := 9) (oi := ⟨some 4, _, _, _, _, _⟩) (v := ?_) rfl (by kernel_rfl) (by kernel_rfl) (by kernel_rfl) (fun _ _ _ h => h) (Or.inl ⟨by rfl, ?_⟩) (by assumption) ?_
    rotate_left
    · intro w hSw
      try dsimp only at hSw
      go_simp
      try with_reducible rfl
    simp only [Act.put, List.setIfInBounds_toArray]
    refine wpAnyH_take (i := 10) (oi := ⟨some 5, _, _, _, _, _⟩) (v := ?_) rfl (by kernel_rfl) (by kernel_rfl) (by kernel_rfl) (fun _ _ _ h => h) (Or.inl ⟨by rfl, ?_⟩) (by assumption) ?_
    rotate_left
    · intro w hSw
      try dsimp only at hSw
      go_simp
      try with_reducible rfl
    simp only [Act.put, List.setIfInBounds_toArray]
    refine wpAnyH_take (i := 11) (oi := ⟨some 6, _, _, _, _, _⟩) (v := ?_) rfl (by kernel_rfl) (by kernel_rfl) (by kernel_rfl) (fun _ _ _ h => h) (Or.inl ⟨by rfl, ?_⟩) (by assumption) ?_
    rotate_left
    · intro w hSw
      try dsimp only at hSw
      go_simp
      try with_reducible rfl
    simp only [Act.put, List.setIfInBounds_toArray]
    refine wpAnyH_done (by kernel_rfl) ?_ _
    clear hHeld
    go_wp2_with fail
    refine bodyPost_ret (v := .tuple #[.agg #[.slice b n d, .int .i64 N], .int .i64 id, .int .i64 s, .string rp, .int .i64 z]) (by simp [results, Try.results6, go_sem, q0, q1]) rfl ⟨b, n, d, N, ls, id, s, rp, z, rfl, HN.out, h12, (HE3.out.op.fin HE3.out.own _ _).1, (HE3.out.op.fin HE3.out.own _ _).2⟩
  · go_wp2_with fail
    refine (l1Below_any (w.heap.size + 1) a len cap 2 _ HD8.out.op.cur).mono ?_
    rintro e w9 ⟨⟨x, x0, x9, rfl⟩, hC9, hK9⟩
    have HD9 := hidP (HD8.out.keep hC9 hK9)
    have x9' := x9 (by omega)
    obtain ⟨j, rfl⟩ : ∃ j : Nat, x = (j : Int) := ⟨x.toNat, by omega⟩
    clear hC9 hK9 x9 HD8
    go_wp2_with (refine wpList_make_full _ rfl (.tmp 31) (.tmp 31) 22 rfl w9.heap.size 5 i0 _ 1 Try.tyB.1 hi hz0 hz1 .i64 .i64 (200 + (j : Int)) (200 + (j : Int)) (200 + j) rfl rfl (by omega) (by omega) (by rw [hz2]; omega) (by unfold maxLen; omega) (Nat.le_refl _) ?_; intro wm hown hgrow; have hcv := cvtN wm w9.heap.size w9.heap.size (200 + j) hown; have HDm := hidP (HD9.out.below ((Below.refl _ w9).grown hgrow (Nat.le_refl _) (fun k hk => by cases hk))))
    have HDmd := hidP (HDm.out.below (Below.refl _ _).drew)
    refine wp_region_held_drew (S := (fun X => X.cell? ⟨w3.heap.size, 0, none⟩ = some (.slice b n d) ∧ X.cell? ⟨w3.heap.size, 1, none⟩ = some (.int .i64 N))) (by kernel_rfl) ?_ (fun hHeld => ?_)
    · try dsimp only
      exact ⟨HDmd.out.d0, HDmd.out.d1⟩
    refine wpAnyH_take (i := 0) (oi := ⟨some 34, _, _, _, _, _⟩) (v := ?_) rfl (by kernel_rfl) (by kernel_rfl) (by kernel_rfl) (fun _ _ _ h => h) (Or.inl ⟨by rfl, ?_⟩) (by assumption) ?_
    rotate_left
    · intro w hSw
      try dsimp only at hSw
      go_simp
      try with_reducible rfl
    simp only [Act.put, List.setIfInBounds_toArray, List.set_cons_zero, List.set_cons_succ]
    refine wpAnyH_take (i := 1) (oi := ⟨some 35, _, _, _, _, _⟩) (v := ?_) rfl (by kernel_rfl) (by kernel_rfl) (by kernel_rfl) (fun _ _ _ h => h) (Or.inl ⟨by rfl, ?_⟩) (by assumption) ?_
    rotate_left
    · intro w hSw
      try dsimp only at hSw
      go_simp
      try with_reducible rfl
    simp only [Act.put, List.setIfInBounds_toArray, List.set_cons_zero, List.set_cons_succ]
    refine wpAnyH_take (i := 2) (oi := ⟨some 36, _, _, _, _, _⟩) (v := ?_) rfl (by kernel_rfl) (by kernel_rfl) (by kernel_rfl) (fun _ _ _ h => h) (Or.inl ⟨by rfl, ?_⟩) (by assumption) ?_
    rotate_left
    · intro w hSw
      try dsimp only at hSw
      go_simp
      try with_reducible rfl
    simp only [Act.put, List.setIfInBounds_toArray, List.set_cons_zero, List.set_cons_succ]
    refine wpAnyH_take (i := 3) (oi := ⟨some 37, _, _, _, _, _⟩) (v := ?_) rfl (by kernel_rfl) (by kernel_rfl) (by kernel_rfl) (fun _ _ _ h => h) (Or.inl ⟨by rfl, ?_⟩) (by assumption) ?_
    rotate_left
    · intro w hSw
      try dsimp only at hSw
      go_simp
      try with_reducible rfl
    simp only [Act.put, List.setIfInBounds_toArray, List.set_cons_zero, List.set_cons_succ]
    refine wpAnyH_take (i := 4) (oi := ⟨some 38, _, _, _, _, _⟩) (v := ?_) rfl (by kernel_rfl) (by kernel_rfl) (by kernel_rfl) (fun _ _ _ h => h) (Or.inl ⟨by rfl, ?_⟩) (by assumption) ?_
    rotate_left
    · intro w hSw
      try dsimp only at hSw
      go_simp
      try with_reducible rfl
    simp only [Act.put, List.setIfInBounds_toArray, List.set_cons_zero, List.set_cons_succ]
    refine wpAnyH_ready (rs := [5]) (by kernel_rfl) (by simp) ?_
    refine AllReadyH.cons rfl (fun K hK => ?_) AllReadyH.nil
    go_simp
    have zb := (alloc_below wm (.cells #[.int .i64 0, .int .i64 50, .int .i64 500, .int .i64 1000000001] 3)).drew
    have zl : wm.heap.size < (wm.alloc (.cells #[.int .i64 0, .int .i64 50, .int .i64 500, .int .i64 1000000001] 3)).drew.heap.size := alloc_lt wm (.cells #[.int .i64 0, .int .i64 50, .int .i64 500, .int .i64 1000000001] 3)
    have zc : ∀ j, j < 4 → ∃ z, (fun _ : Int => True) z ∧ (wm.alloc (.cells #[.int .i64 0, .int .i64 50, .int .i64 500, .int .i64 1000000001] 3)).drew.cell? ⟨wm.heap.size, j, none⟩ = some (.int .i64 z) := cells4 wm 3 0 50 500 1000000001
    have HE2 := hidP (HDm.out.below zb)
    have hne : wm.heap.size ≠ w.heap.size + 1 := by have := HDm.out.op.sz; omega
    generalize (wm.alloc (.cells #[.int .i64 0, .int .i64 50, .int .i64 500, .int .i64 1000000001] 3)).drew = v2 at *
    refine hK.out _ _ ?_ (fun hHeld => ?_)
    · try dsimp only
      exact ⟨HE2.out.d0, HE2.out.d1⟩
    clear hK K
    refine wpAnyH_ready (rs := [6]) (by kernel_rfl) (by simp) ?_
    refine AllReadyH.cons rfl (fun K hK => ?_) AllReadyH.nil
    go_simp
    go_wp2_with (first | (go_at_call 24; refine (l1Int_any (fun _ => True) (w.heap.size + 1) a len cap wm.heap.size 4 _ HE2.out.op.cur (by omega) (by omega) zl hne zc).mono ?_; rintro e v3 ⟨⟨z, _, rfl⟩, hC3, hK3⟩))
    have HE3 := hidP (HE2.out.keep hC3 hK3)
    clear hC3 hK3 zb zl zc
    refine hK.out _ _ ?_ (fun hHeld => ?_)
    · try dsimp only
      exact ⟨HE3.out.d0, HE3.out.d1⟩
    clear hK K
    refine wpAnyH_ready (rs := [7]) (by kernel_rfl) (by simp) ?_
    refine AllReadyH.cons rfl (fun K hK => ?_) AllReadyH.nil
    have q0 := HE3.out.op.r0
    have q1 := HE3.out.op.r1
    have qF := HE3.out.op.rF
    have hxe : w3.heap.size ≠ w.heap.size := by have := HE3.out.he; omega
    go_simp
    refine hK.out _ _ ?_ (fun hHeld => ?_)
    · try dsimp only
      exact ⟨cell_set1 (cell_set1 HE3.out.d0 hxe) hxe, cell_set1 (cell_set1 HE3.out.d1 hxe) hxe⟩
    clear hK K
    refine wpAnyH_take (i := 8) (oi := ⟨some 3, _, _, _, _, _⟩) (v := ?_) rfl (by kernel_rfl) (by kernel_rfl) (by kernel_rfl) (fun _ _ _ h => h) (Or.inl ⟨by rfl, ?_⟩) (by assumption) ?_
    rotate_left
    · intro w hSw
      try dsimp only at hSw
      go_simp
      try with_reducible rfl
    simp only [Act.put, List.setIfInBounds_toArray]
    refine wpAnyH_take (i := 9) (oi := ⟨some 4, _, _, _, _, _⟩) (v := ?_) rfl (by kernel_rfl) (by kernel_rfl) (by kernel_rfl) (fun _ _ _ h => h) (Or.inl ⟨by rfl, ?_⟩) (by assumption) ?_
    rotate_left
    · intro w hSw
      try dsimp only at hSw
      go_simp
      try with_reducible rfl
    simp only [Act.put, List.setIfInBounds_toArray]
    refine wpAnyH_take (i := 10) (oi := ⟨some 5, _, _, _, _, _⟩) (v := ?_) rfl (by kernel_rfl) (by kernel_rfl) (by kernel_rfl) (fun _ _ _ h => h) (Or.inl ⟨by rfl, ?_⟩) (by assumption) ?_
    rotate_left
    · intro w hSw
      try dsimp only at hSw
      go_simp
      try with_reducible rfl
    simp only [Act.put, List.setIfInBounds_toArray]
    refine wpAnyH_take (i := 11) (oi := ⟨some 6, _, _, _, _, _⟩) (v := ?_) rfl (by kernel_rfl) (by kernel_rfl) (by kernel_rfl) (fun _ _ _ h => h) (Or.inl ⟨by rfl, ?_⟩) (by assumption) ?_
    rotate_left
    · intro w hSw
      try dsimp only at hSw
      go_simp
      try with_reducible rfl
    simp only [Act.put, List.setIfInBounds_toArray]
    refine wpAnyH_done (by kernel_rfl) ?_ _
    clear hHeld
    go_wp2_with fail
    refine bodyPost_ret (v := .tuple #[.agg #[.slice b n d, .int .i64 N], .int .i64 id, .int .i64 s, .string (strOfNums (List.replicate (200 + j) 0)), .int .i64 z]) (by simp [results, Try.results6, go_sem, q0, q1]) rfl ⟨b, n, d, N, ls, id, s, (strOfNums (List.replicate (200 + j) 0)), z, rfl, HN.out, h12, (HE3.out.op.fin HE3.out.own _ _).1, (HE3.out.op.fin HE3.out.own _ _).2⟩

end Go.Proofs.Ytjenbmiiikeenaa
