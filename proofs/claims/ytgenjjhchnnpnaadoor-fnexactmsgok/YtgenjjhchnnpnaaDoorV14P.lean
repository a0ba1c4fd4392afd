/-
  The specification's MsgOk: the entries, and what is behind them.
-/
import Derived.Test.YtgenjjhchnnpnaaDoorV14Q
namespace Go.Proofs.YtgenjjhchnnpnaaDoor
open Go.ChangeShapes Go.WideShapes Go.ChangeAt Go.RowKit Go.Joins Go.Deep

/-- What is asked behind the entries. -/
def kB (m : Mg) : Bool :=
  if m.K = 1 then zB true false false false false m else
  if m.K = 2 then zB false false false true false m else
  if m.K = 3 then zB true false true false false m else
  if m.K = 4 then zB false true false true false m else
  (zB true false false false true m && grB m.ps m.bs)

set_option maxRecDepth 10000 in
set_option maxHeartbeats 20000000 in
theorem sMsg_yes (m : Mg) (w : World) (h : hB m.K m.F m.T m.M m.I m.L m.C m.en m.dn = true) (hr : MgR w m) (hs : MgS m) (hf : ∀ e ∈ m.es, EnF e) :
    Calls Tryd.prog 5 #[m.v] w fun e w' => e = .returned (.bool (rngE m.M m.L m.es && kB m)) ∧ Below w.heap.size w w' := by
  have HR := hidP (And.intro hr.re (And.intro hr.dt hf))
  have HN := hidP hr.he
  have HG := hidP (fun W (hb : Below w.heap.size w W) => sGroupOk_any m.ga m.gn m.gc m.ha m.hn m.hc m.ps m.bs W hr.hg hr.hh (hr.rg.later hb) (hr.rh.later hb) hs.hg hs.hh)
  have HZ1 := hidP (lz_1 m)
  have HZ2 := hidP (lz_2 m)
  have HZ3 := hidP (lz_3 m)
  have HZ4 := hidP (lz_4 m)
  have HZ5 := hidP (lz_5 m)
  generalize hkb : kB m = KB
  unfold kB at hkb
  generalize hz1 : zB true false false false false m = z1 at *
  generalize hz2 : zB false false false true false m = z2 at *
  generalize hz3 : zB true false true false false m = z3 at *
  generalize hz4 : zB false true false true false m = z4 at *
  generalize hz5 : zB true false false false true m = z5 at *
  clear hr hs hf hz1 hz2 hz3 hz4 hz5
  obtain ⟨K, F, T, M, I, L, ea, en, ec, C, O, da, dn, dc, ga, gn, gc, ha, hn, hc, es, ds, ps, bs⟩ := m
  simp only at h HR HN HG HZ1 HZ2 HZ3 HZ4 HZ5 hkb
  dsimp only
  have HKB := hidP hkb
  clear hkb
  unfold hB at h
  simp only [Bool.and_eq_true, decide_eq_true_eq] at h
  obtain ⟨hK, hF, hT, hM, hI, hL, hC, hen, hdn⟩ := h
  have HK := hidP hK
  have pen : decide ((en : Int) > 8) = false := decide_eq_false (by omega)
  have qen : decide ((8 : Int) < en) = false := pen
  have pdn : decide ((dn : Int) > 20000) = false := decide_eq_false (by omega)
  have qdn : decide ((20000 : Int) < dn) = false := pdn

  have H0 := hidP (fun W => l1In14 K 1 5 true hK W)
  have H1 := hidP (fun W => l1In14 F 1 7 true hF W)
  have H2 := hidP (fun W => l1In14 T 1 7 true hT W)
  have H3 := hidP (fun W => l1In14 M 1 1000000 true hM W)
  have H4 := hidP (fun W => l1In14 I 0 1000000 true hI W)
  have H5 := hidP (fun W => l1In14 L 0 M true hL W)
  have H6 := hidP (fun W => l1In14 C 0 1000000 true hC W)
  clear hK hF hT hM hI hL hC
  go_enter Tryd.func5, Tryd.ntmps5
  go_wp2_with fail
  obtain ⟨b0, b1, b2, b3, b4, b5, b6, b7, b8, b9, b10, b11⟩ := box12z w 34 (.int .i64 K) (.int .i64 F) (.int .i64 T) (.int .i64 M) (.int .i64 I) (.int .i64 L) (.slice ea en ec) (.int .i64 C) (.bool O) (.slice da dn dc) (.slice ga gn gc) (.slice ha hn hc)
  have bB := alloc_below w (.cells #[.int .i64 K, .int .i64 F, .int .i64 T, .int .i64 M, .int .i64 I, .int .i64 L, .slice ea en ec, .int .i64 C, .bool O, .slice da dn dc, .slice ga gn gc, .slice ha hn hc] 34)
  have bL : w.heap.size < (w.alloc (.cells #[.int .i64 K, .int .i64 F, .int .i64 T, .int .i64 M, .int .i64 I, .int .i64 L, .slice ea en ec, .int .i64 C, .bool O, .slice da dn dc, .slice ga gn gc, .slice ha hn hc] 34)).heap.size := by simp
  generalize w.alloc (.cells #[.int .i64 K, .int .i64 F, .int .i64 T, .int .i64 M, .int .i64 I, .int .i64 L, .slice ea en ec, .int .i64 C, .bool O, .slice da dn dc, .slice ga gn gc, .slice ha hn hc] 34) = W1 at *
  refine (H0.out _).mono ?_
  rintro e0 w0 ⟨rfl, rfl⟩
  go_wp2_with fail
  refine (H1.out _).mono ?_
  rintro e0 w0 ⟨rfl, rfl⟩
  go_wp2_with fail
  refine (H2.out _).mono ?_
  rintro e0 w0 ⟨rfl, rfl⟩
  go_wp2_with fail
  refine (H3.out _).mono ?_
  rintro e0 w0 ⟨rfl, rfl⟩
  go_wp2_with fail
  refine (H4.out _).mono ?_
  rintro e0 w0 ⟨rfl, rfl⟩
  go_wp2_with fail
  refine (H5.out _).mono ?_
  rintro e0 w0 ⟨rfl, rfl⟩
  go_wp2_with fail
  refine (H6.out _).mono ?_
  rintro e0 w0 ⟨rfl, rfl⟩
  go_wp2_with fail
  clear H0 H1 H2 H3 H4 H5 H6 pen qen pdn qdn
  go_loopw [3, 4] (fun t3 t4 wr => ∃ (i : Nat) (l : Int), i ≤ en ∧ t4 = .int .i64 i ∧ t3 = .int .i64 l ∧ rngE M l (es.drop i) = rngE M L es ∧ Below W1.heap.size W1 wr) (fun _ t4 _ => en - (intOf t4).toNat)
  case atStart => exact ⟨0, L, Nat.zero_le _, rfl, rfl, rfl, Below.refl _ _⟩
  case round =>
    obtain ⟨i, l, hin, rfl, rfl, h1, hbr⟩ := hrel
    have HB := hidP hbr
    have d0 := (hbr.cell bL).trans b0
    have d1 := (hbr.cell bL).trans b1
    have d2 := (hbr.cell bL).trans b2
    have d3 := (hbr.cell bL).trans b3
    have d4 := (hbr.cell bL).trans b4
    have d5 := (hbr.cell bL).trans b5
    have d6 := (hbr.cell bL).trans b6
    have d7 := (hbr.cell bL).trans b7
    have d8 := (hbr.cell bL).trans b8
    have d9 := (hbr.cell bL).trans b9
    have d10 := (hbr.cell bL).trans b10
    have d11 := (hbr.cell bL).trans b11
    have hwr : w.heap.size < wr.heap.size := Nat.lt_of_lt_of_le bL hbr.size
    have HWr := hidP (bB.trans (hbr.mono bB.size))
    clear b0 b1 b2 b3 b4 b5 b6 b7 b8 b9 b10 b11
    by_cases hlt : i < en
    · obtain ⟨p, o, e, rfl, hp, he, c0, c1, c2⟩ := rowEn HR.out.1 i (by have := HN.out; omega)
      rw [dropE he] at h1
      have hm := List.mem_of_getElem? he
      have hD := (HR.out.2.1 e hm).later HWr.out
      have HEn := hidP (fun W (hb : Below wr.heap.size wr W) => sEntry_any e W (hD.later hb) (HR.out.2.2 e hm))
      have hp2 : p < wr.heap.size := Nat.lt_of_lt_of_le hp HWr.out.size
      have x0 := (HWr.out.cell hp).trans c0
      have x1 := (HWr.out.cell hp).trans c1
      have x2 := (HWr.out.cell hp).trans c2
      have HS : Hid (((e.ok && inB e.T l M) && rngE M e.T (es.drop (i + 1))) = rngE M L es) := hidP h1
      have i0 : (0 : Int) ≤ (i : Int) := by omega
      have i1 : (i : Int) < (en : Int) := by omega
      clear c0 c1 c2 h1 hD hbr he hp hm
      cases ho : e.ok
      · rw [ho] at HEn HS
        go_wp2_with fail
        have HSx : Hid (∀ x, Below wr.heap.size wr x → (x.cell? ⟨w.heap.size, 3, none⟩ = some (.int .i64 M) ∧ x.cell? ⟨w.heap.size, 6, none⟩ = some (.slice (some ⟨p, o, none⟩) en ec) ∧ x.cell? ⟨p, o + i * 3, none⟩ = some (.int .i64 e.T) ∧ x.cell? ⟨p, o + i * 3 + 1, none⟩ = some (.int .i64 e.K) ∧ x.cell? ⟨p, o + i * 3 + 2, none⟩ = some (.slice e.a e.n e.c) ∧ Below wr.heap.size wr x)) := hidP fun x h =>
          ⟨(h.cell hwr).trans d3, (h.cell hwr).trans d6, (h.cell hp2).trans x0, (h.cell hp2).trans x1, (h.cell hp2).trans x2, h⟩
        refine wp_region_held_drew (S := (fun x => x.cell? ⟨w.heap.size, 3, none⟩ = some (.int .i64 M) ∧ x.cell? ⟨w.heap.size, 6, none⟩ = some (.slice (some ⟨p, o, none⟩) en ec) ∧ x.cell? ⟨p, o + i * 3, none⟩ = some (.int .i64 e.T) ∧ x.cell? ⟨p, o + i * 3 + 1, none⟩ = some (.int .i64 e.K) ∧ x.cell? ⟨p, o + i * 3 + 2, none⟩ = some (.slice e.a e.n e.c) ∧ Below wr.heap.size wr x)) (by kernel_rfl) ?_ (fun hHeld => ?_)
        · try dsimp only
          exact HSx.out _ ((Below.refl _ _).drew)
        refine wpAnyH_take (i := 0) (oi := ⟨some 69, _, _, _, _, _⟩) (v := ?_) rfl (by kernel_rfl) (by kernel_rfl) (by kernel_rfl) (fun _ _ _ h => h) (Or.inl ⟨by rfl, ?_⟩) (by assumption) ?_
        rotate_left
        · intro w hSw
          try dsimp only at hSw
          go_simp
          try with_reducible rfl
        simp only [Act.put, List.setIfInBounds_toArray, List.set_cons_zero, List.set_cons_succ]
        refine wpAnyH_take (i := 1) (oi := ⟨some 70, _, _, _, _, _⟩) (v := ?_) rfl (by kernel_rfl) (by kernel_rfl) (by kernel_rfl) (fun _ _ _ h => h) (Or.inl ⟨by rfl, ?_⟩) (by assumption) ?_
        rotate_left
        · intro w hSw
          try dsimp only at hSw
          go_simp
          try with_reducible rfl
        simp only [Act.put, List.setIfInBounds_toArray, List.set_cons_zero, List.set_cons_succ]
        refine wpAnyH_take (i := 2) (oi := ⟨some 71, _, _, _, _, _⟩) (v := ?_) rfl (by kernel_rfl) (by kernel_rfl) (by kernel_rfl) (fun _ _ _ h => h) (Or.inl ⟨by rfl, ?_⟩) (by assumption) ?_
        rotate_left
        · intro w hSw
          try dsimp only at hSw
          go_simp
          try with_reducible rfl
        simp only [Act.put, List.setIfInBounds_toArray, List.set_cons_zero, List.set_cons_succ]
        refine wpAnyH_take (i := 3) (oi := ⟨some 72, _, _, _, _, _⟩) (v := ?_) rfl (by kernel_rfl) (by kernel_rfl) (by kernel_rfl) (fun _ _ _ h => h) (Or.inl ⟨by rfl, ?_⟩) (by assumption) ?_
        rotate_left
        · intro w hSw
          try dsimp only at hSw
          go_simp
          try with_reducible rfl
        simp only [Act.put, List.setIfInBounds_toArray, List.set_cons_zero, List.set_cons_succ]
        refine wpAnyH_take (i := 4) (oi := ⟨some 73, _, _, _, _, _⟩) (v := ?_) rfl (by kernel_rfl) (by kernel_rfl) (by kernel_rfl) (fun _ _ _ h => h) (Or.inl ⟨by rfl, ?_⟩) (by assumption) ?_
        rotate_left
        · intro w hSw
          try dsimp only at hSw
          go_simp
          try with_reducible rfl
        simp only [Act.put, List.setIfInBounds_toArray, List.set_cons_zero, List.set_cons_succ]
        refine wpAnyH_ready (rs := [5]) (by kernel_rfl) (by simp) ?_
        refine AllReadyH.cons rfl (fun K hK => ?_) AllReadyH.nil
        go_simp
        go_wp2_with (first | (go_at_call 13; refine (HEn.out _ (hHeld.2.2.2.2.2)).mono ?_; rintro e w2 ⟨rfl, hb2⟩; have b2 := (hHeld.2.2.2.2.2).trans (hb2.mono (hHeld.2.2.2.2.2).size)))
        refine hK.out _ _ ?_ (fun hHeld => ?_)
        · try dsimp only
          exact HSx.out _ b2
        clear hK K
        refine wpAnyH_take (i := 6) (oi := ⟨some 75, _, _, _, _, _⟩) (v := ?_) rfl (by kernel_rfl) (by kernel_rfl) (by kernel_rfl) (fun _ _ _ h => h) (Or.inl ⟨by rfl, ?_⟩) (by assumption) ?_
        rotate_left
        · intro w hSw
          try dsimp only at hSw
          go_simp
          try with_reducible rfl
        simp only [Act.put, List.setIfInBounds_toArray, List.set_cons_zero, List.set_cons_succ]
        refine wpAnyH_take (i := 7) (oi := ⟨some 76, _, _, _, _, _⟩) (v := ?_) rfl (by kernel_rfl) (by kernel_rfl) (by kernel_rfl) (fun _ _ _ h => h) (Or.inl ⟨by rfl, ?_⟩) (by assumption) ?_
        rotate_left
        · intro w hSw
          try dsimp only at hSw
          go_simp
          try with_reducible rfl
        simp only [Act.put, List.setIfInBounds_toArray, List.set_cons_zero, List.set_cons_succ]
        refine wpAnyH_take (i := 8) (oi := ⟨some 77, _, _, _, _, _⟩) (v := undef) rfl (by kernel_rfl) (by kernel_rfl) (by kernel_rfl) (fun _ _ _ h => h) (Or.inr ⟨by rfl, rfl⟩) (by assumption) ?_
        simp only [Act.put, List.setIfInBounds_toArray, List.set_cons_zero, List.set_cons_succ]
        refine wpAnyH_take (i := 9) (oi := ⟨some 78, _, _, _, _, _⟩) (v := undef) rfl (by kernel_rfl) (by kernel_rfl) (by kernel_rfl) (fun _ _ _ h => h) (Or.inr ⟨by rfl, rfl⟩) (by assumption) ?_
        simp only [Act.put, List.setIfInBounds_toArray, List.set_cons_zero, List.set_cons_succ]
        refine wpAnyH_take (i := 10) (oi := ⟨some 79, _, _, _, _, _⟩) (v := undef) rfl (by kernel_rfl) (by kernel_rfl) (by kernel_rfl) (fun _ _ _ h => h) (Or.inr ⟨by rfl, rfl⟩) (by assumption) ?_
        simp only [Act.put, List.setIfInBounds_toArray, List.set_cons_zero, List.set_cons_succ]
        refine wpAnyH_take (i := 11) (oi := ⟨some 80, _, _, _, _, _⟩) (v := undef) rfl (by kernel_rfl) (by kernel_rfl) (by kernel_rfl) (fun _ _ _ h => h) (Or.inr ⟨by rfl, rfl⟩) (by assumption) ?_
        simp only [Act.put, List.setIfInBounds_toArray, List.set_cons_zero, List.set_cons_succ]
        refine wpAnyH_take (i := 12) (oi := ⟨some 81, _, _, _, _, _⟩) (v := undef) rfl (by kernel_rfl) (by kernel_rfl) (by kernel_rfl) (fun _ _ _ h => h) (Or.inr ⟨by rfl, rfl⟩) (by assumption) ?_
        simp only [Act.put, List.setIfInBounds_toArray, List.set_cons_zero, List.set_cons_succ]
        refine wpAnyH_take (i := 13) (oi := ⟨some 82, _, _, _, _, _⟩) (v := undef) rfl (by kernel_rfl) (by kernel_rfl) (by kernel_rfl) (fun _ _ _ h => h) (Or.inr ⟨by rfl, rfl⟩) (by assumption) ?_
        simp only [Act.put, List.setIfInBounds_toArray, List.set_cons_zero, List.set_cons_succ]
        refine wpAnyH_take (i := 14) (oi := ⟨some 83, _, _, _, _, _⟩) (v := undef) rfl (by kernel_rfl) (by kernel_rfl) (by kernel_rfl) (fun _ _ _ h => h) (Or.inr ⟨by rfl, rfl⟩) (by assumption) ?_
        simp only [Act.put, List.setIfInBounds_toArray, List.set_cons_zero, List.set_cons_succ]
        refine wpAnyH_take (i := 15) (oi := ⟨some 84, _, _, _, _, _⟩) (v := undef) rfl (by kernel_rfl) (by kernel_rfl) (by kernel_rfl) (fun _ _ _ h => h) (Or.inr ⟨by rfl, rfl⟩) (by assumption) ?_
        simp only [Act.put, List.setIfInBounds_toArray, List.set_cons_zero, List.set_cons_succ]
        refine wpAnyH_take (i := 16) (oi := ⟨some 85, _, _, _, _, _⟩) (v := undef) rfl (by kernel_rfl) (by kernel_rfl) (by kernel_rfl) (fun _ _ _ h => h) (Or.inr ⟨by rfl, rfl⟩) (by assumption) ?_
        simp only [Act.put, List.setIfInBounds_toArray, List.set_cons_zero, List.set_cons_succ]
        refine wpAnyH_take (i := 17) (oi := ⟨some 86, _, _, _, _, _⟩) (v := undef) rfl (by kernel_rfl) (by kernel_rfl) (by kernel_rfl) (fun _ _ _ h => h) (Or.inr ⟨by rfl, rfl⟩) (by assumption) ?_
        simp only [Act.put, List.setIfInBounds_toArray, List.set_cons_zero, List.set_cons_succ]
        refine wpAnyH_take (i := 18) (oi := ⟨some 87, _, _, _, _, _⟩) (v := undef) rfl (by kernel_rfl) (by kernel_rfl) (by kernel_rfl) (fun _ _ _ h => h) (Or.inr ⟨by rfl, rfl⟩) (by assumption) ?_
        simp only [Act.put, List.setIfInBounds_toArray, List.set_cons_zero, List.set_cons_succ]
        refine wpAnyH_take (i := 19) (oi := ⟨some 88, _, _, _, _, _⟩) (v := ?_) rfl (by kernel_rfl) (by kernel_rfl) (by kernel_rfl) (fun _ _ _ h => h) (Or.inl ⟨by rfl, ?_⟩) (by assumption) ?_
        rotate_left
        · intro w hSw
          try dsimp only at hSw
          go_simp
          try with_reducible rfl
        simp only [Act.put, List.setIfInBounds_toArray, List.set_cons_zero, List.set_cons_succ]
        have HE := hidP (hHeld.2.2.2.2.2)
        refine wpAnyH_done (by kernel_rfl) ?_ _
        clear hHeld
        go_wp2_with fail
        go_ret
        exact ⟨by rw [← HS.out]; rfl, HWr.out.trans (HE.out.mono HWr.out.size)⟩
      · rw [ho] at HEn HS
        cases hT : inB e.T l M
        · rw [hT] at HS
          have HT := hidP (fun W => l1In14 e.T l M false hT W)
          clear hT
          go_wp2_with fail
          have HSx : Hid (∀ x, Below wr.heap.size wr x → (x.cell? ⟨w.heap.size, 3, none⟩ = some (.int .i64 M) ∧ x.cell? ⟨w.heap.size, 6, none⟩ = some (.slice (some ⟨p, o, none⟩) en ec) ∧ x.cell? ⟨p, o + i * 3, none⟩ = some (.int .i64 e.T) ∧ x.cell? ⟨p, o + i * 3 + 1, none⟩ = some (.int .i64 e.K) ∧ x.cell? ⟨p, o + i * 3 + 2, none⟩ = some (.slice e.a e.n e.c) ∧ Below wr.heap.size wr x)) := hidP fun x h =>
            ⟨(h.cell hwr).trans d3, (h.cell hwr).trans d6, (h.cell hp2).trans x0, (h.cell hp2).trans x1, (h.cell hp2).trans x2, h⟩
          refine wp_region_held_drew (S := (fun x => x.cell? ⟨w.heap.size, 3, none⟩ = some (.int .i64 M) ∧ x.cell? ⟨w.heap.size, 6, none⟩ = some (.slice (some ⟨p, o, none⟩) en ec) ∧ x.cell? ⟨p, o + i * 3, none⟩ = some (.int .i64 e.T) ∧ x.cell? ⟨p, o + i * 3 + 1, none⟩ = some (.int .i64 e.K) ∧ x.cell? ⟨p, o + i * 3 + 2, none⟩ = some (.slice e.a e.n e.c) ∧ Below wr.heap.size wr x)) (by kernel_rfl) ?_ (fun hHeld => ?_)
          · try dsimp only
            exact HSx.out _ ((Below.refl _ _).drew)
          refine wpAnyH_take (i := 0) (oi := ⟨some 69, _, _, _, _, _⟩) (v := ?_) rfl (by kernel_rfl) (by kernel_rfl) (by kernel_rfl) (fun _ _ _ h => h) (Or.inl ⟨by rfl, ?_⟩) (by assumption) ?_
          rotate_left
          · intro w hSw
            try dsimp only at hSw
            go_simp
            try with_reducible rfl
          simp only [Act.put, List.setIfInBounds_toArray, List.set_cons_zero, List.set_cons_succ]
          refine wpAnyH_take (i := 1) (oi := ⟨some 70, _, _, _, _, _⟩) (v := ?_) rfl (by kernel_rfl) (by kernel_rfl) (by kernel_rfl) (fun _ _ _ h => h) (Or.inl ⟨by rfl, ?_⟩) (by assumption) ?_
          rotate_left
          · intro w hSw
            try dsimp only at hSw
            go_simp
            try with_reducible rfl
          simp only [Act.put, List.setIfInBounds_toArray, List.set_cons_zero, List.set_cons_succ]
          refine wpAnyH_take (i := 2) (oi := ⟨some 71, _, _, _, _, _⟩) (v := ?_) rfl (by kernel_rfl) (by kernel_rfl) (by kernel_rfl) (fun _ _ _ h => h) (Or.inl ⟨by rfl, ?_⟩) (by assumption) ?_
          rotate_left
          · intro w hSw
            try dsimp only at hSw
            go_simp
            try with_reducible rfl
          simp only [Act.put, List.setIfInBounds_toArray, List.set_cons_zero, List.set_cons_succ]
          refine wpAnyH_take (i := 3) (oi := ⟨some 72, _, _, _, _, _⟩) (v := ?_) rfl (by kernel_rfl) (by kernel_rfl) (by kernel_rfl) (fun _ _ _ h => h) (Or.inl ⟨by rfl, ?_⟩) (by assumption) ?_
          rotate_left
          · intro w hSw
            try dsimp only at hSw
            go_simp
            try with_reducible rfl
          simp only [Act.put, List.setIfInBounds_toArray, List.set_cons_zero, List.set_cons_succ]
          refine wpAnyH_take (i := 4) (oi := ⟨some 73, _, _, _, _, _⟩) (v := ?_) rfl (by kernel_rfl) (by kernel_rfl) (by kernel_rfl) (fun _ _ _ h => h) (Or.inl ⟨by rfl, ?_⟩) (by assumption) ?_
          rotate_left
          · intro w hSw
            try dsimp only at hSw
            go_simp
            try with_reducible rfl
          simp only [Act.put, List.setIfInBounds_toArray, List.set_cons_zero, List.set_cons_succ]
          refine wpAnyH_ready (rs := [5]) (by kernel_rfl) (by simp) ?_
          refine AllReadyH.cons rfl (fun K hK => ?_) AllReadyH.nil
          go_simp
          go_wp2_with (first | (go_at_call 13; refine (HEn.out _ (hHeld.2.2.2.2.2)).mono ?_; rintro e w2 ⟨rfl, hb2⟩; have b2 := (hHeld.2.2.2.2.2).trans (hb2.mono (hHeld.2.2.2.2.2).size)))
          refine hK.out _ _ ?_ (fun hHeld => ?_)
          · try dsimp only
            exact HSx.out _ b2
          clear hK K
          refine wpAnyH_take (i := 6) (oi := ⟨some 75, _, _, _, _, _⟩) (v := ?_) rfl (by kernel_rfl) (by kernel_rfl) (by kernel_rfl) (fun _ _ _ h => h) (Or.inl ⟨by rfl, ?_⟩) (by assumption) ?_
          rotate_left
          · intro w hSw
            try dsimp only at hSw
            go_simp
            try with_reducible rfl
          simp only [Act.put, List.setIfInBounds_toArray, List.set_cons_zero, List.set_cons_succ]
          refine wpAnyH_take (i := 7) (oi := ⟨some 76, _, _, _, _, _⟩) (v := ?_) rfl (by kernel_rfl) (by kernel_rfl) (by kernel_rfl) (fun _ _ _ h => h) (Or.inl ⟨by rfl, ?_⟩) (by assumption) ?_
          rotate_left
          · intro w hSw
            try dsimp only at hSw
            go_simp
            try with_reducible rfl
          simp only [Act.put, List.setIfInBounds_toArray, List.set_cons_zero, List.set_cons_succ]
          refine wpAnyH_take (i := 8) (oi := ⟨some 77, _, _, _, _, _⟩) (v := ?_) rfl (by kernel_rfl) (by kernel_rfl) (by kernel_rfl) (fun _ _ _ h => h) (Or.inl ⟨by rfl, ?_⟩) (by assumption) ?_
          rotate_left
          · intro w hSw
            try dsimp only at hSw
            go_simp
            try with_reducible rfl
          simp only [Act.put, List.setIfInBounds_toArray, List.set_cons_zero, List.set_cons_succ]
          refine wpAnyH_take (i := 9) (oi := ⟨some 78, _, _, _, _, _⟩) (v := ?_) rfl (by kernel_rfl) (by kernel_rfl) (by kernel_rfl) (fun _ _ _ h => h) (Or.inl ⟨by rfl, ?_⟩) (by assumption) ?_
          rotate_left
          · intro w hSw
            try dsimp only at hSw
            go_simp
            try with_reducible rfl
          simp only [Act.put, List.setIfInBounds_toArray, List.set_cons_zero, List.set_cons_succ]
          refine wpAnyH_take (i := 10) (oi := ⟨some 79, _, _, _, _, _⟩) (v := ?_) rfl (by kernel_rfl) (by kernel_rfl) (by kernel_rfl) (fun _ _ _ h => h) (Or.inl ⟨by rfl, ?_⟩) (by assumption) ?_
          rotate_left
          · intro w hSw
            try dsimp only at hSw
            go_simp
            try with_reducible rfl
          simp only [Act.put, List.setIfInBounds_toArray, List.set_cons_zero, List.set_cons_succ]
          refine wpAnyH_take (i := 11) (oi := ⟨some 80, _, _, _, _, _⟩) (v := ?_) rfl (by kernel_rfl) (by kernel_rfl) (by kernel_rfl) (fun _ _ _ h => h) (Or.inl ⟨by rfl, ?_⟩) (by assumption) ?_
          rotate_left
          · intro w hSw
            try dsimp only at hSw
            go_simp
            try with_reducible rfl
          simp only [Act.put, List.setIfInBounds_toArray, List.set_cons_zero, List.set_cons_succ]
          refine wpAnyH_take (i := 12) (oi := ⟨some 81, _, _, _, _, _⟩) (v := ?_) rfl (by kernel_rfl) (by kernel_rfl) (by kernel_rfl) (fun _ _ _ h => h) (Or.inl ⟨by rfl, ?_⟩) (by assumption) ?_
          rotate_left
          · intro w hSw
            try dsimp only at hSw
            go_simp
            try with_reducible rfl
          simp only [Act.put, List.setIfInBounds_toArray, List.set_cons_zero, List.set_cons_succ]
          refine wpAnyH_take (i := 13) (oi := ⟨some 82, _, _, _, _, _⟩) (v := ?_) rfl (by kernel_rfl) (by kernel_rfl) (by kernel_rfl) (fun _ _ _ h => h) (Or.inl ⟨by rfl, ?_⟩) (by assumption) ?_
          rotate_left
          · intro w hSw
            try dsimp only at hSw
            go_simp
            try with_reducible rfl
          simp only [Act.put, List.setIfInBounds_toArray, List.set_cons_zero, List.set_cons_succ]
          refine wpAnyH_take (i := 14) (oi := ⟨some 83, _, _, _, _, _⟩) (v := ?_) rfl (by kernel_rfl) (by kernel_rfl) (by kernel_rfl) (fun _ _ _ h => h) (Or.inl ⟨by rfl, ?_⟩) (by assumption) ?_
          rotate_left
          · intro w hSw
            try dsimp only at hSw
            go_simp
            try with_reducible rfl
          simp only [Act.put, List.setIfInBounds_toArray, List.set_cons_zero, List.set_cons_succ]
          refine wpAnyH_take (i := 15) (oi := ⟨some 84, _, _, _, _, _⟩) (v := ?_) rfl (by kernel_rfl) (by kernel_rfl) (by kernel_rfl) (fun _ _ _ h => h) (Or.inl ⟨by rfl, ?_⟩) (by assumption) ?_
          rotate_left
          · intro w hSw
            try dsimp only at hSw
            go_simp
            try with_reducible rfl
          simp only [Act.put, List.setIfInBounds_toArray, List.set_cons_zero, List.set_cons_succ]
          refine wpAnyH_take (i := 16) (oi := ⟨some 85, _, _, _, _, _⟩) (v := ?_) rfl (by kernel_rfl) (by kernel_rfl) (by kernel_rfl) (fun _ _ _ h => h) (Or.inl ⟨by rfl, ?_⟩) (by assumption) ?_
          rotate_left
          · intro w hSw
            try dsimp only at hSw
            go_simp
            try with_reducible rfl
          simp only [Act.put, List.setIfInBounds_toArray, List.set_cons_zero, List.set_cons_succ]
          refine wpAnyH_ready (rs := [17]) (by kernel_rfl) (by simp) ?_
          refine AllReadyH.cons rfl (fun K hK => ?_) AllReadyH.nil
          go_simp
          go_wp2_with (first | (go_at_call 12; refine (HT.out _).mono ?_; rintro e w' ⟨rfl, rfl⟩))
          refine hK.out _ _ ?_ (fun hHeld => ?_)
          · try dsimp only
            exact HSx.out _ (hHeld.2.2.2.2.2)
          clear hK K
          refine wpAnyH_take (i := 18) (oi := ⟨some 87, _, _, _, _, _⟩) (v := ?_) rfl (by kernel_rfl) (by kernel_rfl) (by kernel_rfl) (fun _ _ _ h => h) (Or.inl ⟨by rfl, ?_⟩) (by assumption) ?_
          rotate_left
          · intro w hSw
            try dsimp only at hSw
            go_simp
            try with_reducible rfl
          simp only [Act.put, List.setIfInBounds_toArray, List.set_cons_zero, List.set_cons_succ]
          refine wpAnyH_take (i := 19) (oi := ⟨some 88, _, _, _, _, _⟩) (v := ?_) rfl (by kernel_rfl) (by kernel_rfl) (by kernel_rfl) (fun _ _ _ h => h) (Or.inl ⟨by rfl, ?_⟩) (by assumption) ?_
          rotate_left
          · intro w hSw
            try dsimp only at hSw
            go_simp
            try with_reducible rfl
          simp only [Act.put, List.setIfInBounds_toArray, List.set_cons_zero, List.set_cons_succ]
          have HE := hidP (hHeld.2.2.2.2.2)
          refine wpAnyH_done (by kernel_rfl) ?_ _
          clear hHeld
          go_wp2_with fail
          go_ret
          exact ⟨by rw [← HS.out]; rfl, HWr.out.trans (HE.out.mono HWr.out.size)⟩
        · rw [hT] at HS
          have HT := hidP (fun W => l1In14 e.T l M true hT W)
          clear hT
          go_wp2_with fail
          have HSx : Hid (∀ x, Below wr.heap.size wr x → (x.cell? ⟨w.heap.size, 3, none⟩ = some (.int .i64 M) ∧ x.cell? ⟨w.heap.size, 6, none⟩ = some (.slice (some ⟨p, o, none⟩) en ec) ∧ x.cell? ⟨p, o + i * 3, none⟩ = some (.int .i64 e.T) ∧ x.cell? ⟨p, o + i * 3 + 1, none⟩ = some (.int .i64 e.K) ∧ x.cell? ⟨p, o + i * 3 + 2, none⟩ = some (.slice e.a e.n e.c) ∧ Below wr.heap.size wr x)) := hidP fun x h =>
            ⟨(h.cell hwr).trans d3, (h.cell hwr).trans d6, (h.cell hp2).trans x0, (h.cell hp2).trans x1, (h.cell hp2).trans x2, h⟩
          refine wp_region_held_drew (S := (fun x => x.cell? ⟨w.heap.size, 3, none⟩ = some (.int .i64 M) ∧ x.cell? ⟨w.heap.size, 6, none⟩ = some (.slice (some ⟨p, o, none⟩) en ec) ∧ x.cell? ⟨p, o + i * 3, none⟩ = some (.int .i64 e.T) ∧ x.cell? ⟨p, o + i * 3 + 1, none⟩ = some (.int .i64 e.K) ∧ x.cell? ⟨p, o + i * 3 + 2, none⟩ = some (.slice e.a e.n e.c) ∧ Below wr.heap.size wr x)) (by kernel_rfl) ?_ (fun hHeld => ?_)
          · try dsimp only
            exact HSx.out _ ((Below.refl _ _).drew)
          refine wpAnyH_take (i := 0) (oi := ⟨some 69, _, _, _, _, _⟩) (v := ?_) rfl (by kernel_rfl) (by kernel_rfl) (by kernel_rfl) (fun _ _ _ h => h) (Or.inl ⟨by rfl, ?_⟩) (by assumption) ?_
          rotate_left
          · intro w hSw
            try dsimp only at hSw
            go_simp
            try with_reducible rfl
          simp only [Act.put, List.setIfInBounds_toArray, List.set_cons_zero, List.set_cons_succ]
          refine wpAnyH_take (i := 1) (oi := ⟨some 70, _, _, _, _, _⟩) (v := ?_) rfl (by kernel_rfl) (by kernel_rfl) (by kernel_rfl) (fun _ _ _ h => h) (Or.inl ⟨by rfl, ?_⟩) (by assumption) ?_
          rotate_left
          · intro w hSw
            try dsimp only at hSw
            go_simp
            try with_reducible rfl
          simp only [Act.put, List.setIfInBounds_toArray, List.set_cons_zero, List.set_cons_succ]
          refine wpAnyH_take (i := 2) (oi := ⟨some 71, _, _, _, _, _⟩) (v := ?_) rfl (by kernel_rfl) (by kernel_rfl) (by kernel_rfl) (fun _ _ _ h => h) (Or.inl ⟨by rfl, ?_⟩) (by assumption) ?_
          rotate_left
          · intro w hSw
            try dsimp only at hSw
            go_simp
            try with_reducible rfl
          simp only [Act.put, List.setIfInBounds_toArray, List.set_cons_zero, List.set_cons_succ]
          refine wpAnyH_take (i := 3) (oi := ⟨some 72, _, _, _, _, _⟩) (v := ?_) rfl (by kernel_rfl) (by kernel_rfl) (by kernel_rfl) (fun _ _ _ h => h) (Or.inl ⟨by rfl, ?_⟩) (by assumption) ?_
          rotate_left
          · intro w hSw
            try dsimp only at hSw
            go_simp
            try with_reducible rfl
          simp only [Act.put, List.setIfInBounds_toArray, List.set_cons_zero, List.set_cons_succ]
          refine wpAnyH_take (i := 4) (oi := ⟨some 73, _, _, _, _, _⟩) (v := ?_) rfl (by kernel_rfl) (by kernel_rfl) (by kernel_rfl) (fun _ _ _ h => h) (Or.inl ⟨by rfl, ?_⟩) (by assumption) ?_
          rotate_left
          · intro w hSw
            try dsimp only at hSw
            go_simp
            try with_reducible rfl
          simp only [Act.put, List.setIfInBounds_toArray, List.set_cons_zero, List.set_cons_succ]
          refine wpAnyH_ready (rs := [5]) (by kernel_rfl) (by simp) ?_
          refine AllReadyH.cons rfl (fun K hK => ?_) AllReadyH.nil
          go_simp
          go_wp2_with (first | (go_at_call 13; refine (HEn.out _ (hHeld.2.2.2.2.2)).mono ?_; rintro e w2 ⟨rfl, hb2⟩; have b2 := (hHeld.2.2.2.2.2).trans (hb2.mono (hHeld.2.2.2.2.2).size)))
          refine hK.out _ _ ?_ (fun hHeld => ?_)
          · try dsimp only
            exact HSx.out _ b2
          clear hK K
          refine wpAnyH_take (i := 6) (oi := ⟨some 75, _, _, _, _, _⟩) (v := ?_) rfl (by kernel_rfl) (by kernel_rfl) (by kernel_rfl) (fun _ _ _ h => h) (Or.inl ⟨by rfl, ?_⟩) (by assumption) ?_
          rotate_left
          · intro w hSw
            try dsimp only at hSw
            go_simp
            try with_reducible rfl
          simp only [Act.put, List.setIfInBounds_toArray, List.set_cons_zero, List.set_cons_succ]
          refine wpAnyH_take (i := 7) (oi := ⟨some 76, _, _, _, _, _⟩) (v := ?_) rfl (by kernel_rfl) (by kernel_rfl) (by kernel_rfl) (fun _ _ _ h => h) (Or.inl ⟨by rfl, ?_⟩) (by assumption) ?_
          rotate_left
          · intro w hSw
            try dsimp only at hSw
            go_simp
            try with_reducible rfl
          simp only [Act.put, List.setIfInBounds_toArray, List.set_cons_zero, List.set_cons_succ]
          refine wpAnyH_take (i := 8) (oi := ⟨some 77, _, _, _, _, _⟩) (v := ?_) rfl (by kernel_rfl) (by kernel_rfl) (by kernel_rfl) (fun _ _ _ h => h) (Or.inl ⟨by rfl, ?_⟩) (by assumption) ?_
          rotate_left
          · intro w hSw
            try dsimp only at hSw
            go_simp
            try with_reducible rfl
          simp only [Act.put, List.setIfInBounds_toArray, List.set_cons_zero, List.set_cons_succ]
          refine wpAnyH_take (i := 9) (oi := ⟨some 78, _, _, _, _, _⟩) (v := ?_) rfl (by kernel_rfl) (by kernel_rfl) (by kernel_rfl) (fun _ _ _ h => h) (Or.inl ⟨by rfl, ?_⟩) (by assumption) ?_
          rotate_left
          · intro w hSw
            try dsimp only at hSw
            go_simp
            try with_reducible rfl
          simp only [Act.put, List.setIfInBounds_toArray, List.set_cons_zero, List.set_cons_succ]
          refine wpAnyH_take (i := 10) (oi := ⟨some 79, _, _, _, _, _⟩) (v := ?_) rfl (by kernel_rfl) (by kernel_rfl) (by kernel_rfl) (fun _ _ _ h => h) (Or.inl ⟨by rfl, ?_⟩) (by assumption) ?_
          rotate_left
          · intro w hSw
            try dsimp only at hSw
            go_simp
            try with_reducible rfl
          simp only [Act.put, List.setIfInBounds_toArray, List.set_cons_zero, List.set_cons_succ]
          refine wpAnyH_take (i := 11) (oi := ⟨some 80, _, _, _, _, _⟩) (v := ?_) rfl (by kernel_rfl) (by kernel_rfl) (by kernel_rfl) (fun _ _ _ h => h) (Or.inl ⟨by rfl, ?_⟩) (by assumption) ?_
          rotate_left
          · intro w hSw
            try dsimp only at hSw
            go_simp
            try with_reducible rfl
          simp only [Act.put, List.setIfInBounds_toArray, List.set_cons_zero, List.set_cons_succ]
          refine wpAnyH_take (i := 12) (oi := ⟨some 81, _, _, _, _, _⟩) (v := ?_) rfl (by kernel_rfl) (by kernel_rfl) (by kernel_rfl) (fun _ _ _ h => h) (Or.inl ⟨by rfl, ?_⟩) (by assumption) ?_
          rotate_left
          · intro w hSw
            try dsimp only at hSw
            go_simp
            try with_reducible rfl
          simp only [Act.put, List.setIfInBounds_toArray, List.set_cons_zero, List.set_cons_succ]
          refine wpAnyH_take (i := 13) (oi := ⟨some 82, _, _, _, _, _⟩) (v := ?_) rfl (by kernel_rfl) (by kernel_rfl) (by kernel_rfl) (fun _ _ _ h => h) (Or.inl ⟨by rfl, ?_⟩) (by assumption) ?_
          rotate_left
          · intro w hSw
            try dsimp only at hSw
            go_simp
            try with_reducible rfl
          simp only [Act.put, List.setIfInBounds_toArray, List.set_cons_zero, List.set_cons_succ]
          refine wpAnyH_take (i := 14) (oi := ⟨some 83, _, _, _, _, _⟩) (v := ?_) rfl (by kernel_rfl) (by kernel_rfl) (by kernel_rfl) (fun _ _ _ h => h) (Or.inl ⟨by rfl, ?_⟩) (by assumption) ?_
          rotate_left
          · intro w hSw
            try dsimp only at hSw
            go_simp
            try with_reducible rfl
          simp only [Act.put, List.setIfInBounds_toArray, List.set_cons_zero, List.set_cons_succ]
          refine wpAnyH_take (i := 15) (oi := ⟨some 84, _, _, _, _, _⟩) (v := ?_) rfl (by kernel_rfl) (by kernel_rfl) (by kernel_rfl) (fun _ _ _ h => h) (Or.inl ⟨by rfl, ?_⟩) (by assumption) ?_
          rotate_left
          · intro w hSw
            try dsimp only at hSw
            go_simp
            try with_reducible rfl
          simp only [Act.put, List.setIfInBounds_toArray, List.set_cons_zero, List.set_cons_succ]
          refine wpAnyH_take (i := 16) (oi := ⟨some 85, _, _, _, _, _⟩) (v := ?_) rfl (by kernel_rfl) (by kernel_rfl) (by kernel_rfl) (fun _ _ _ h => h) (Or.inl ⟨by rfl, ?_⟩) (by assumption) ?_
          rotate_left
          · intro w hSw
            try dsimp only at hSw
            go_simp
            try with_reducible rfl
          simp only [Act.put, List.setIfInBounds_toArray, List.set_cons_zero, List.set_cons_succ]
          refine wpAnyH_ready (rs := [17]) (by kernel_rfl) (by simp) ?_
          refine AllReadyH.cons rfl (fun K hK => ?_) AllReadyH.nil
          go_simp
          go_wp2_with (first | (go_at_call 12; refine (HT.out _).mono ?_; rintro e w' ⟨rfl, rfl⟩))
          refine hK.out _ _ ?_ (fun hHeld => ?_)
          · try dsimp only
            exact HSx.out _ (hHeld.2.2.2.2.2)
          clear hK K
          refine wpAnyH_take (i := 18) (oi := ⟨some 87, _, _, _, _, _⟩) (v := ?_) rfl (by kernel_rfl) (by kernel_rfl) (by kernel_rfl) (fun _ _ _ h => h) (Or.inl ⟨by rfl, ?_⟩) (by assumption) ?_
          rotate_left
          · intro w hSw
            try dsimp only at hSw
            go_simp
            try with_reducible rfl
          simp only [Act.put, List.setIfInBounds_toArray, List.set_cons_zero, List.set_cons_succ]
          refine wpAnyH_take (i := 19) (oi := ⟨some 88, _, _, _, _, _⟩) (v := ?_) rfl (by kernel_rfl) (by kernel_rfl) (by kernel_rfl) (fun _ _ _ h => h) (Or.inl ⟨by rfl, ?_⟩) (by assumption) ?_
          rotate_left
          · intro w hSw
            try dsimp only at hSw
            go_simp
            try with_reducible rfl
          simp only [Act.put, List.setIfInBounds_toArray, List.set_cons_zero, List.set_cons_succ]
          have HE := hidP (hHeld.2.2.2.2.2)
          refine wpAnyH_done (by kernel_rfl) ?_ _
          clear hHeld
          have y6 := (HE.out.cell hwr).trans d6
          have y5 := (HE.out.cell hp2).trans x0
          go_wp2_with fail
          go_roundw
          case rel => exact ⟨i + 1, e.T, by omega, by go_num, rfl, HS.out, HB.out.trans (HE.out.mono HB.out.size)⟩
          case measure => simp [intOf]; omega
    · have hiE : en = i := by omega
      subst hiE
      rw [List.drop_of_length_le (by have := HN.out; omega)] at h1
      have HS : Hid (true = rngE M L es) := hidP h1
      clear h1 hbr
      have hk := HK.out
      unfold inB at hk
      simp only [Bool.and_eq_true, decide_eq_true_eq] at hk
      have hk5 : K = 1 ∨ K = 2 ∨ K = 3 ∨ K = 4 ∨ K = 5 := by omega
      clear hk HK
      rcases hk5 with rfl | rfl | rfl | rfl | rfl
      · have hkb : z1 = KB := by have := HKB.out; simpa using this
        cases hzz : z1
        · rw [hzz] at HZ1
          go_wp2_with fail
          have sB := alloc_below wr (.cells #[.string ⟨#[]⟩, .string ⟨#[105]⟩, .string ⟨#[111]⟩, .string ⟨#[105, 101]⟩, .string ⟨#[111, 110]⟩, .string ⟨#[105, 100]⟩] 9)
          have sX : ∀ (j : Nat) (v : Value), (#[.string ⟨#[]⟩, .string ⟨#[105]⟩, .string ⟨#[111]⟩, .string ⟨#[105, 101]⟩, .string ⟨#[111, 110]⟩, .string ⟨#[105, 100]⟩] : Array Value)[j]? = some v → (wr.alloc (.cells #[.string ⟨#[]⟩, .string ⟨#[105]⟩, .string ⟨#[111]⟩, .string ⟨#[105, 101]⟩, .string ⟨#[111, 110]⟩, .string ⟨#[105, 100]⟩] 9)).cell? ⟨wr.heap.size, j, none⟩ = some v := fun j v hv => by simp only [go_sem]; simp [hv]
          have s1 := sX 1 _ rfl
          have g0 := (sB.cell hwr).trans d0
          have g1 := (sB.cell hwr).trans d1
          have g2 := (sB.cell hwr).trans d2
          have g3 := (sB.cell hwr).trans d3
          have g4 := (sB.cell hwr).trans d4
          have g5 := (sB.cell hwr).trans d5
          have g6 := (sB.cell hwr).trans d6
          have g7 := (sB.cell hwr).trans d7
          have g8 := (sB.cell hwr).trans d8
          have g9 := (sB.cell hwr).trans d9
          have g10 := (sB.cell hwr).trans d10
          have g11 := (sB.cell hwr).trans d11
          have hwr2 : w.heap.size < (wr.alloc (.cells #[.string ⟨#[]⟩, .string ⟨#[105]⟩, .string ⟨#[111]⟩, .string ⟨#[105, 101]⟩, .string ⟨#[111, 110]⟩, .string ⟨#[105, 100]⟩] 9)).heap.size := by simp; omega
          have hwr3 : wr.heap.size < (wr.alloc (.cells #[.string ⟨#[]⟩, .string ⟨#[105]⟩, .string ⟨#[111]⟩, .string ⟨#[105, 101]⟩, .string ⟨#[111, 110]⟩, .string ⟨#[105, 100]⟩] 9)).heap.size := by simp
          have HW2 := hidP (HWr.out.trans (sB.mono HWr.out.size))
          clear sX sB d0 d1 d2 d3 d4 d5 d6 d7 d8 d9 d10 d11
          generalize wr.alloc (.cells #[.string ⟨#[]⟩, .string ⟨#[105]⟩, .string ⟨#[111]⟩, .string ⟨#[105, 101]⟩, .string ⟨#[111, 110]⟩, .string ⟨#[105, 100]⟩] 9) = W2 at *
          have HSx : Hid (∀ x, Below W2.heap.size W2 x → (x.cell? ⟨w.heap.size, 0, none⟩ = some (.int .i64 1) ∧ x.cell? ⟨w.heap.size, 1, none⟩ = some (.int .i64 F) ∧ x.cell? ⟨w.heap.size, 2, none⟩ = some (.int .i64 T) ∧ x.cell? ⟨w.heap.size, 3, none⟩ = some (.int .i64 M) ∧ x.cell? ⟨w.heap.size, 4, none⟩ = some (.int .i64 I) ∧ x.cell? ⟨w.heap.size, 5, none⟩ = some (.int .i64 L) ∧ x.cell? ⟨w.heap.size, 6, none⟩ = some (.slice ea en ec) ∧ x.cell? ⟨w.heap.size, 7, none⟩ = some (.int .i64 C) ∧ x.cell? ⟨w.heap.size, 8, none⟩ = some (.bool O) ∧ x.cell? ⟨w.heap.size, 9, none⟩ = some (.slice da dn dc) ∧ x.cell? ⟨w.heap.size, 10, none⟩ = some (.slice ga gn gc) ∧ x.cell? ⟨w.heap.size, 11, none⟩ = some (.slice ha hn hc) ∧ x.cell? ⟨wr.heap.size, 1, none⟩ = some (.string ⟨#[105]⟩) ∧ Below W2.heap.size W2 x)) := hidP fun x h =>
            ⟨(h.cell hwr2).trans g0, (h.cell hwr2).trans g1, (h.cell hwr2).trans g2, (h.cell hwr2).trans g3, (h.cell hwr2).trans g4, (h.cell hwr2).trans g5, (h.cell hwr2).trans g6, (h.cell hwr2).trans g7, (h.cell hwr2).trans g8, (h.cell hwr2).trans g9, (h.cell hwr2).trans g10, (h.cell hwr2).trans g11, (h.cell hwr3).trans s1, h⟩
          refine wp_region_held_drew (S := (fun x => x.cell? ⟨w.heap.size, 0, none⟩ = some (.int .i64 1) ∧ x.cell? ⟨w.heap.size, 1, none⟩ = some (.int .i64 F) ∧ x.cell? ⟨w.heap.size, 2, none⟩ = some (.int .i64 T) ∧ x.cell? ⟨w.heap.size, 3, none⟩ = some (.int .i64 M) ∧ x.cell? ⟨w.heap.size, 4, none⟩ = some (.int .i64 I) ∧ x.cell? ⟨w.heap.size, 5, none⟩ = some (.int .i64 L) ∧ x.cell? ⟨w.heap.size, 6, none⟩ = some (.slice ea en ec) ∧ x.cell? ⟨w.heap.size, 7, none⟩ = some (.int .i64 C) ∧ x.cell? ⟨w.heap.size, 8, none⟩ = some (.bool O) ∧ x.cell? ⟨w.heap.size, 9, none⟩ = some (.slice da dn dc) ∧ x.cell? ⟨w.heap.size, 10, none⟩ = some (.slice ga gn gc) ∧ x.cell? ⟨w.heap.size, 11, none⟩ = some (.slice ha hn hc) ∧ x.cell? ⟨wr.heap.size, 1, none⟩ = some (.string ⟨#[105]⟩) ∧ Below W2.heap.size W2 x)) (by kernel_rfl) ?_ (fun hHeld => ?_)
          · try dsimp only
            exact HSx.out _ ((Below.refl _ _).drew)
          refine wpAnyH_take (i := 0) (oi := ⟨some 96, _, _, _, _, _⟩) (v := ?_) rfl (by kernel_rfl) (by kernel_rfl) (by kernel_rfl) (fun _ _ _ h => h) (Or.inl ⟨by rfl, ?_⟩) (by assumption) ?_
          rotate_left
          · intro w hSw
            try dsimp only at hSw
            go_simp
            try with_reducible rfl
          simp only [Act.put, List.setIfInBounds_toArray, List.set_cons_zero, List.set_cons_succ]
          refine wpAnyH_take (i := 1) (oi := ⟨some 97, _, _, _, _, _⟩) (v := ?_) rfl (by kernel_rfl) (by kernel_rfl) (by kernel_rfl) (fun _ _ _ h => h) (Or.inl ⟨by rfl, ?_⟩) (by assumption) ?_
          rotate_left
          · intro w hSw
            try dsimp only at hSw
            go_simp
            try with_reducible rfl
          simp only [Act.put, List.setIfInBounds_toArray, List.set_cons_zero, List.set_cons_succ]
          refine wpAnyH_take (i := 2) (oi := ⟨some 98, _, _, _, _, _⟩) (v := ?_) rfl (by kernel_rfl) (by kernel_rfl) (by kernel_rfl) (fun _ _ _ h => h) (Or.inl ⟨by rfl, ?_⟩) (by assumption) ?_
          rotate_left
          · intro w hSw
            try dsimp only at hSw
            go_simp
            try with_reducible rfl
          simp only [Act.put, List.setIfInBounds_toArray, List.set_cons_zero, List.set_cons_succ]
          refine wpAnyH_take (i := 3) (oi := ⟨some 99, _, _, _, _, _⟩) (v := ?_) rfl (by kernel_rfl) (by kernel_rfl) (by kernel_rfl) (fun _ _ _ h => h) (Or.inl ⟨by rfl, ?_⟩) (by assumption) ?_
          rotate_left
          · intro w hSw
            try dsimp only at hSw
            go_simp
            try with_reducible rfl
          simp only [Act.put, List.setIfInBounds_toArray, List.set_cons_zero, List.set_cons_succ]
          refine wpAnyH_take (i := 4) (oi := ⟨some 100, _, _, _, _, _⟩) (v := ?_) rfl (by kernel_rfl) (by kernel_rfl) (by kernel_rfl) (fun _ _ _ h => h) (Or.inl ⟨by rfl, ?_⟩) (by assumption) ?_
          rotate_left
          · intro w hSw
            try dsimp only at hSw
            go_simp
            try with_reducible rfl
          simp only [Act.put, List.setIfInBounds_toArray, List.set_cons_zero, List.set_cons_succ]
          refine wpAnyH_take (i := 5) (oi := ⟨some 101, _, _, _, _, _⟩) (v := ?_) rfl (by kernel_rfl) (by kernel_rfl) (by kernel_rfl) (fun _ _ _ h => h) (Or.inl ⟨by rfl, ?_⟩) (by assumption) ?_
          rotate_left
          · intro w hSw
            try dsimp only at hSw
            go_simp
            try with_reducible rfl
          simp only [Act.put, List.setIfInBounds_toArray, List.set_cons_zero, List.set_cons_succ]
          refine wpAnyH_ready (rs := [6]) (by kernel_rfl) (by simp) ?_
          refine AllReadyH.cons rfl (fun K hK => ?_) AllReadyH.nil
          go_simp
          go_wp2_with (first | (go_at_call 14; refine (HZ1.out _).mono ?_; rintro e w2 ⟨rfl, hb2⟩; have b2 := (hHeld.2.2.2.2.2.2.2.2.2.2.2.2.2).trans (hb2.mono (hHeld.2.2.2.2.2.2.2.2.2.2.2.2.2).size)))
          refine hK.out _ _ ?_ (fun hHeld => ?_)
          · try dsimp only
            exact HSx.out _ b2
          clear hK K
          refine wpAnyH_take (i := 7) (oi := ⟨some 103, _, _, _, _, _⟩) (v := ?_) rfl (by kernel_rfl) (by kernel_rfl) (by kernel_rfl) (fun _ _ _ h => h) (Or.inl ⟨by rfl, ?_⟩) (by assumption) ?_
          rotate_left
          · intro w hSw
            try dsimp only at hSw
            go_simp
            try with_reducible rfl
          simp only [Act.put, List.setIfInBounds_toArray, List.set_cons_zero, List.set_cons_succ]
          refine wpAnyH_take (i := 8) (oi := ⟨some 104, _, _, _, _, _⟩) (v := undef) rfl (by kernel_rfl) (by kernel_rfl) (by kernel_rfl) (fun _ _ _ h => h) (Or.inr ⟨by rfl, rfl⟩) (by assumption) ?_
          simp only [Act.put, List.setIfInBounds_toArray, List.set_cons_zero, List.set_cons_succ]
          refine wpAnyH_take (i := 9) (oi := ⟨some 105, _, _, _, _, _⟩) (v := undef) rfl (by kernel_rfl) (by kernel_rfl) (by kernel_rfl) (fun _ _ _ h => h) (Or.inr ⟨by rfl, rfl⟩) (by assumption) ?_
          simp only [Act.put, List.setIfInBounds_toArray, List.set_cons_zero, List.set_cons_succ]
          refine wpAnyH_take (i := 10) (oi := ⟨some 106, _, _, _, _, _⟩) (v := undef) rfl (by kernel_rfl) (by kernel_rfl) (by kernel_rfl) (fun _ _ _ h => h) (Or.inr ⟨by rfl, rfl⟩) (by assumption) ?_
          simp only [Act.put, List.setIfInBounds_toArray, List.set_cons_zero, List.set_cons_succ]
          refine wpAnyH_take (i := 11) (oi := ⟨some 107, _, _, _, _, _⟩) (v := undef) rfl (by kernel_rfl) (by kernel_rfl) (by kernel_rfl) (fun _ _ _ h => h) (Or.inr ⟨by rfl, rfl⟩) (by assumption) ?_
          simp only [Act.put, List.setIfInBounds_toArray, List.set_cons_zero, List.set_cons_succ]
          refine wpAnyH_take (i := 12) (oi := ⟨some 108, _, _, _, _, _⟩) (v := undef) rfl (by kernel_rfl) (by kernel_rfl) (by kernel_rfl) (fun _ _ _ h => h) (Or.inr ⟨by rfl, rfl⟩) (by assumption) ?_
          simp only [Act.put, List.setIfInBounds_toArray, List.set_cons_zero, List.set_cons_succ]
          refine wpAnyH_take (i := 13) (oi := ⟨some 109, _, _, _, _, _⟩) (v := undef) rfl (by kernel_rfl) (by kernel_rfl) (by kernel_rfl) (fun _ _ _ h => h) (Or.inr ⟨by rfl, rfl⟩) (by assumption) ?_
          simp only [Act.put, List.setIfInBounds_toArray, List.set_cons_zero, List.set_cons_succ]
          refine wpAnyH_take (i := 14) (oi := ⟨some 110, _, _, _, _, _⟩) (v := undef) rfl (by kernel_rfl) (by kernel_rfl) (by kernel_rfl) (fun _ _ _ h => h) (Or.inr ⟨by rfl, rfl⟩) (by assumption) ?_
          simp only [Act.put, List.setIfInBounds_toArray, List.set_cons_zero, List.set_cons_succ]
          refine wpAnyH_take (i := 15) (oi := ⟨some 111, _, _, _, _, _⟩) (v := undef) rfl (by kernel_rfl) (by kernel_rfl) (by kernel_rfl) (fun _ _ _ h => h) (Or.inr ⟨by rfl, rfl⟩) (by assumption) ?_
          simp only [Act.put, List.setIfInBounds_toArray, List.set_cons_zero, List.set_cons_succ]
          refine wpAnyH_take (i := 16) (oi := ⟨some 112, _, _, _, _, _⟩) (v := ?_) rfl (by kernel_rfl) (by kernel_rfl) (by kernel_rfl) (fun _ _ _ h => h) (Or.inl ⟨by rfl, ?_⟩) (by assumption) ?_
          rotate_left
          · intro w hSw
            try dsimp only at hSw
            go_simp
            try with_reducible rfl
          simp only [Act.put, List.setIfInBounds_toArray, List.set_cons_zero, List.set_cons_succ]
          refine wpAnyH_take (i := 17) (oi := ⟨some 2, _, _, _, _, _⟩) (v := ?_) rfl (by kernel_rfl) (by kernel_rfl) (by kernel_rfl) (fun _ _ _ h => h) (Or.inl ⟨by rfl, ?_⟩) (by assumption) ?_
          rotate_left
          · intro w hSw
            try dsimp only at hSw
            go_simp
            try with_reducible rfl
          simp only [Act.put, List.setIfInBounds_toArray, List.set_cons_zero, List.set_cons_succ]
          have HE := hidP (hHeld.2.2.2.2.2.2.2.2.2.2.2.2.2)
          refine wpAnyH_done (by kernel_rfl) ?_ _
          clear hHeld
          go_wp2_with fail
          go_ret
          exact ⟨by rw [← HS.out, ← hkb, hzz]; rfl, HW2.out.trans (HE.out.mono HW2.out.size)⟩
        · rw [hzz] at HZ1
          go_wp2_with fail
          have sB := alloc_below wr (.cells #[.string ⟨#[]⟩, .string ⟨#[105]⟩, .string ⟨#[111]⟩, .string ⟨#[105, 101]⟩, .string ⟨#[111, 110]⟩, .string ⟨#[105, 100]⟩] 9)
          have sX : ∀ (j : Nat) (v : Value), (#[.string ⟨#[]⟩, .string ⟨#[105]⟩, .string ⟨#[111]⟩, .string ⟨#[105, 101]⟩, .string ⟨#[111, 110]⟩, .string ⟨#[105, 100]⟩] : Array Value)[j]? = some v → (wr.alloc (.cells #[.string ⟨#[]⟩, .string ⟨#[105]⟩, .string ⟨#[111]⟩, .string ⟨#[105, 101]⟩, .string ⟨#[111, 110]⟩, .string ⟨#[105, 100]⟩] 9)).cell? ⟨wr.heap.size, j, none⟩ = some v := fun j v hv => by simp only [go_sem]; simp [hv]
          have s1 := sX 1 _ rfl
          have g0 := (sB.cell hwr).trans d0
          have g1 := (sB.cell hwr).trans d1
          have g2 := (sB.cell hwr).trans d2
          have g3 := (sB.cell hwr).trans d3
          have g4 := (sB.cell hwr).trans d4
          have g5 := (sB.cell hwr).trans d5
          have g6 := (sB.cell hwr).trans d6
          have g7 := (sB.cell hwr).trans d7
          have g8 := (sB.cell hwr).trans d8
          have g9 := (sB.cell hwr).trans d9
          have g10 := (sB.cell hwr).trans d10
          have g11 := (sB.cell hwr).trans d11
          have hwr2 : w.heap.size < (wr.alloc (.cells #[.string ⟨#[]⟩, .string ⟨#[105]⟩, .string ⟨#[111]⟩, .string ⟨#[105, 101]⟩, .string ⟨#[111, 110]⟩, .string ⟨#[105, 100]⟩] 9)).heap.size := by simp; omega
          have hwr3 : wr.heap.size < (wr.alloc (.cells #[.string ⟨#[]⟩, .string ⟨#[105]⟩, .string ⟨#[111]⟩, .string ⟨#[105, 101]⟩, .string ⟨#[111, 110]⟩, .string ⟨#[105, 100]⟩] 9)).heap.size := by simp
          have HW2 := hidP (HWr.out.trans (sB.mono HWr.out.size))
          clear sX sB d0 d1 d2 d3 d4 d5 d6 d7 d8 d9 d10 d11
          generalize wr.alloc (.cells #[.string ⟨#[]⟩, .string ⟨#[105]⟩, .string ⟨#[111]⟩, .string ⟨#[105, 101]⟩, .string ⟨#[111, 110]⟩, .string ⟨#[105, 100]⟩] 9) = W2 at *
          have HSx : Hid (∀ x, Below W2.heap.size W2 x → (x.cell? ⟨w.heap.size, 0, none⟩ = some (.int .i64 1) ∧ x.cell? ⟨w.heap.size, 1, none⟩ = some (.int .i64 F) ∧ x.cell? ⟨w.heap.size, 2, none⟩ = some (.int .i64 T) ∧ x.cell? ⟨w.heap.size, 3, none⟩ = some (.int .i64 M) ∧ x.cell? ⟨w.heap.size, 4, none⟩ = some (.int .i64 I) ∧ x.cell? ⟨w.heap.size, 5, none⟩ = some (.int .i64 L) ∧ x.cell? ⟨w.heap.size, 6, none⟩ = some (.slice ea en ec) ∧ x.cell? ⟨w.heap.size, 7, none⟩ = some (.int .i64 C) ∧ x.cell? ⟨w.heap.size, 8, none⟩ = some (.bool O) ∧ x.cell? ⟨w.heap.size, 9, none⟩ = some (.slice da dn dc) ∧ x.cell? ⟨w.heap.size, 10, none⟩ = some (.slice ga gn gc) ∧ x.cell? ⟨w.heap.size, 11, none⟩ = some (.slice ha hn hc) ∧ x.cell? ⟨wr.heap.size, 1, none⟩ = some (.string ⟨#[105]⟩) ∧ Below W2.heap.size W2 x)) := hidP fun x h =>
            ⟨(h.cell hwr2).trans g0, (h.cell hwr2).trans g1, (h.cell hwr2).trans g2, (h.cell hwr2).trans g3, (h.cell hwr2).trans g4, (h.cell hwr2).trans g5, (h.cell hwr2).trans g6, (h.cell hwr2).trans g7, (h.cell hwr2).trans g8, (h.cell hwr2).trans g9, (h.cell hwr2).trans g10, (h.cell hwr2).trans g11, (h.cell hwr3).trans s1, h⟩
          refine wp_region_held_drew (S := (fun x => x.cell? ⟨w.heap.size, 0, none⟩ = some (.int .i64 1) ∧ x.cell? ⟨w.heap.size, 1, none⟩ = some (.int .i64 F) ∧ x.cell? ⟨w.heap.size, 2, none⟩ = some (.int .i64 T) ∧ x.cell? ⟨w.heap.size, 3, none⟩ = some (.int .i64 M) ∧ x.cell? ⟨w.heap.size, 4, none⟩ = some (.int .i64 I) ∧ x.cell? ⟨w.heap.size, 5, none⟩ = some (.int .i64 L) ∧ x.cell? ⟨w.heap.size, 6, none⟩ = some (.slice ea en ec) ∧ x.cell? ⟨w.heap.size, 7, none⟩ = some (.int .i64 C) ∧ x.cell? ⟨w.heap.size, 8, none⟩ = some (.bool O) ∧ x.cell? ⟨w.heap.size, 9, none⟩ = some (.slice da dn dc) ∧ x.cell? ⟨w.heap.size, 10, none⟩ = some (.slice ga gn gc) ∧ x.cell? ⟨w.heap.size, 11, none⟩ = some (.slice ha hn hc) ∧ x.cell? ⟨wr.heap.size, 1, none⟩ = some (.string ⟨#[105]⟩) ∧ Below W2.heap.size W2 x)) (by kernel_rfl) ?_ (fun hHeld => ?_)
          · try dsimp only
            exact HSx.out _ ((Below.refl _ _).drew)
          refine wpAnyH_take (i := 0) (oi := ⟨some 96, _, _, _, _, _⟩) (v := ?_) rfl (by kernel_rfl) (by kernel_rfl) (by kernel_rfl) (fun _ _ _ h => h) (Or.inl ⟨by rfl, ?_⟩) (by assumption) ?_
          rotate_left
          · intro w hSw
            try dsimp only at hSw
            go_simp
            try with_reducible rfl
          simp only [Act.put, List.setIfInBounds_toArray, List.set_cons_zero, List.set_cons_succ]
          refine wpAnyH_take (i := 1) (oi := ⟨some 97, _, _, _, _, _⟩) (v := ?_) rfl (by kernel_rfl) (by kernel_rfl) (by kernel_rfl) (fun _ _ _ h => h) (Or.inl ⟨by rfl, ?_⟩) (by assumption) ?_
          rotate_left
          · intro w hSw
            try dsimp only at hSw
            go_simp
            try with_reducible rfl
          simp only [Act.put, List.setIfInBounds_toArray, List.set_cons_zero, List.set_cons_succ]
          refine wpAnyH_take (i := 2) (oi := ⟨some 98, _, _, _, _, _⟩) (v := ?_) rfl (by kernel_rfl) (by kernel_rfl) (by kernel_rfl) (fun _ _ _ h => h) (Or.inl ⟨by rfl, ?_⟩) (by assumption) ?_
          rotate_left
          · intro w hSw
            try dsimp only at hSw
            go_simp
            try with_reducible rfl
          simp only [Act.put, List.setIfInBounds_toArray, List.set_cons_zero, List.set_cons_succ]
          refine wpAnyH_take (i := 3) (oi := ⟨some 99, _, _, _, _, _⟩) (v := ?_) rfl (by kernel_rfl) (by kernel_rfl) (by kernel_rfl) (fun _ _ _ h => h) (Or.inl ⟨by rfl, ?_⟩) (by assumption) ?_
          rotate_left
          · intro w hSw
            try dsimp only at hSw
            go_simp
            try with_reducible rfl
          simp only [Act.put, List.setIfInBounds_toArray, List.set_cons_zero, List.set_cons_succ]
          refine wpAnyH_take (i := 4) (oi := ⟨some 100, _, _, _, _, _⟩) (v := ?_) rfl (by kernel_rfl) (by kernel_rfl) (by kernel_rfl) (fun _ _ _ h => h) (Or.inl ⟨by rfl, ?_⟩) (by assumption) ?_
          rotate_left
          · intro w hSw
            try dsimp only at hSw
            go_simp
            try with_reducible rfl
          simp only [Act.put, List.setIfInBounds_toArray, List.set_cons_zero, List.set_cons_succ]
          refine wpAnyH_take (i := 5) (oi := ⟨some 101, _, _, _, _, _⟩) (v := ?_) rfl (by kernel_rfl) (by kernel_rfl) (by kernel_rfl) (fun _ _ _ h => h) (Or.inl ⟨by rfl, ?_⟩) (by assumption) ?_
          rotate_left
          · intro w hSw
            try dsimp only at hSw
            go_simp
            try with_reducible rfl
          simp only [Act.put, List.setIfInBounds_toArray, List.set_cons_zero, List.set_cons_succ]
          refine wpAnyH_ready (rs := [6]) (by kernel_rfl) (by simp) ?_
          refine AllReadyH.cons rfl (fun K hK => ?_) AllReadyH.nil
          go_simp
          go_wp2_with (first | (go_at_call 14; refine (HZ1.out _).mono ?_; rintro e w2 ⟨rfl, hb2⟩; have b2 := (hHeld.2.2.2.2.2.2.2.2.2.2.2.2.2).trans (hb2.mono (hHeld.2.2.2.2.2.2.2.2.2.2.2.2.2).size)))
          refine hK.out _ _ ?_ (fun hHeld => ?_)
          · try dsimp only
            exact HSx.out _ b2
          clear hK K
          refine wpAnyH_take (i := 7) (oi := ⟨some 103, _, _, _, _, _⟩) (v := ?_) rfl (by kernel_rfl) (by kernel_rfl) (by kernel_rfl) (fun _ _ _ h => h) (Or.inl ⟨by rfl, ?_⟩) (by assumption) ?_
          rotate_left
          · intro w hSw
            try dsimp only at hSw
            go_simp
            try with_reducible rfl
          simp only [Act.put, List.setIfInBounds_toArray, List.set_cons_zero, List.set_cons_succ]
          refine wpAnyH_take (i := 8) (oi := ⟨some 104, _, _, _, _, _⟩) (v := ?_) rfl (by kernel_rfl) (by kernel_rfl) (by kernel_rfl) (fun _ _ _ h => h) (Or.inl ⟨by rfl, ?_⟩) (by assumption) ?_
          rotate_left
          · intro w hSw
            try dsimp only at hSw
            go_simp
            try with_reducible rfl
          simp only [Act.put, List.setIfInBounds_toArray, List.set_cons_zero, List.set_cons_succ]
          refine wpAnyH_take (i := 9) (oi := ⟨some 105, _, _, _, _, _⟩) (v := ?_) rfl (by kernel_rfl) (by kernel_rfl) (by kernel_rfl) (fun _ _ _ h => h) (Or.inl ⟨by rfl, ?_⟩) (by assumption) ?_
          rotate_left
          · intro w hSw
            try dsimp only at hSw
            go_simp
            try with_reducible rfl
          simp only [Act.put, List.setIfInBounds_toArray, List.set_cons_zero, List.set_cons_succ]
          refine wpAnyH_take (i := 10) (oi := ⟨some 106, _, _, _, _, _⟩) (v := ?_) rfl (by kernel_rfl) (by kernel_rfl) (by kernel_rfl) (fun _ _ _ h => h) (Or.inl ⟨by rfl, ?_⟩) (by assumption) ?_
          rotate_left
          · intro w hSw
            try dsimp only at hSw
            go_simp
            try with_reducible rfl
          simp only [Act.put, List.setIfInBounds_toArray, List.set_cons_zero, List.set_cons_succ]
          refine wpAnyH_take (i := 11) (oi := ⟨some 107, _, _, _, _, _⟩) (v := ?_) rfl (by kernel_rfl) (by kernel_rfl) (by kernel_rfl) (fun _ _ _ h => h) (Or.inl ⟨by rfl, ?_⟩) (by assumption) ?_
          rotate_left
          · intro w hSw
            try dsimp only at hSw
            go_simp
            try with_reducible rfl
          simp only [Act.put, List.setIfInBounds_toArray, List.set_cons_zero, List.set_cons_succ]
          refine wpAnyH_take (i := 12) (oi := ⟨some 108, _, _, _, _, _⟩) (v := undef) rfl (by kernel_rfl) (by kernel_rfl) (by kernel_rfl) (fun _ _ _ h => h) (Or.inr ⟨by rfl, rfl⟩) (by assumption) ?_
          simp only [Act.put, List.setIfInBounds_toArray, List.set_cons_zero, List.set_cons_succ]
          refine wpAnyH_take (i := 13) (oi := ⟨some 109, _, _, _, _, _⟩) (v := undef) rfl (by kernel_rfl) (by kernel_rfl) (by kernel_rfl) (fun _ _ _ h => h) (Or.inr ⟨by rfl, rfl⟩) (by assumption) ?_
          simp only [Act.put, List.setIfInBounds_toArray, List.set_cons_zero, List.set_cons_succ]
          refine wpAnyH_take (i := 14) (oi := ⟨some 110, _, _, _, _, _⟩) (v := undef) rfl (by kernel_rfl) (by kernel_rfl) (by kernel_rfl) (fun _ _ _ h => h) (Or.inr ⟨by rfl, rfl⟩) (by assumption) ?_
          simp only [Act.put, List.setIfInBounds_toArray, List.set_cons_zero, List.set_cons_succ]
          refine wpAnyH_take (i := 15) (oi := ⟨some 111, _, _, _, _, _⟩) (v := ?_) rfl (by kernel_rfl) (by kernel_rfl) (by kernel_rfl) (fun _ _ _ h => h) (Or.inl ⟨by rfl, ?_⟩) (by assumption) ?_
          rotate_left
          · intro w hSw
            try dsimp only at hSw
            go_simp
            try with_reducible rfl
          simp only [Act.put, List.setIfInBounds_toArray, List.set_cons_zero, List.set_cons_succ]
          refine wpAnyH_take (i := 16) (oi := ⟨some 112, _, _, _, _, _⟩) (v := ?_) rfl (by kernel_rfl) (by kernel_rfl) (by kernel_rfl) (fun _ _ _ h => h) (Or.inl ⟨by rfl, ?_⟩) (by assumption) ?_
          rotate_left
          · intro w hSw
            try dsimp only at hSw
            go_simp
            try with_reducible rfl
          simp only [Act.put, List.setIfInBounds_toArray, List.set_cons_zero, List.set_cons_succ]
          refine wpAnyH_take (i := 17) (oi := ⟨some 2, _, _, _, _, _⟩) (v := ?_) rfl (by kernel_rfl) (by kernel_rfl) (by kernel_rfl) (fun _ _ _ h => h) (Or.inl ⟨by rfl, ?_⟩) (by assumption) ?_
          rotate_left
          · intro w hSw
            try dsimp only at hSw
            go_simp
            try with_reducible rfl
          simp only [Act.put, List.setIfInBounds_toArray, List.set_cons_zero, List.set_cons_succ]
          have HE := hidP (hHeld.2.2.2.2.2.2.2.2.2.2.2.2.2)
          refine wpAnyH_done (by kernel_rfl) ?_ _
          clear hHeld
          go_wp2_with fail
          go_ret
          exact ⟨by rw [← HS.out, ← hkb, hzz]; rfl, HW2.out.trans (HE.out.mono HW2.out.size)⟩
      · have hkb : z2 = KB := by have := HKB.out; simpa using this
        cases hzz : z2
        · rw [hzz] at HZ2
          go_wp2_with fail
          have sB := alloc_below wr (.cells #[.string ⟨#[]⟩, .string ⟨#[105]⟩, .string ⟨#[111]⟩, .string ⟨#[105, 101]⟩, .string ⟨#[111, 110]⟩, .string ⟨#[105, 100]⟩] 9)
          have sX : ∀ (j : Nat) (v : Value), (#[.string ⟨#[]⟩, .string ⟨#[105]⟩, .string ⟨#[111]⟩, .string ⟨#[105, 101]⟩, .string ⟨#[111, 110]⟩, .string ⟨#[105, 100]⟩] : Array Value)[j]? = some v → (wr.alloc (.cells #[.string ⟨#[]⟩, .string ⟨#[105]⟩, .string ⟨#[111]⟩, .string ⟨#[105, 101]⟩, .string ⟨#[111, 110]⟩, .string ⟨#[105, 100]⟩] 9)).cell? ⟨wr.heap.size, j, none⟩ = some v := fun j v hv => by simp only [go_sem]; simp [hv]
          have s2 := sX 2 _ rfl
          have g0 := (sB.cell hwr).trans d0
          have g1 := (sB.cell hwr).trans d1
          have g2 := (sB.cell hwr).trans d2
          have g3 := (sB.cell hwr).trans d3
          have g4 := (sB.cell hwr).trans d4
          have g5 := (sB.cell hwr).trans d5
          have g6 := (sB.cell hwr).trans d6
          have g7 := (sB.cell hwr).trans d7
          have g8 := (sB.cell hwr).trans d8
          have g9 := (sB.cell hwr).trans d9
          have g10 := (sB.cell hwr).trans d10
          have g11 := (sB.cell hwr).trans d11
          have hwr2 : w.heap.size < (wr.alloc (.cells #[.string ⟨#[]⟩, .string ⟨#[105]⟩, .string ⟨#[111]⟩, .string ⟨#[105, 101]⟩, .string ⟨#[111, 110]⟩, .string ⟨#[105, 100]⟩] 9)).heap.size := by simp; omega
          have hwr3 : wr.heap.size < (wr.alloc (.cells #[.string ⟨#[]⟩, .string ⟨#[105]⟩, .string ⟨#[111]⟩, .string ⟨#[105, 101]⟩, .string ⟨#[111, 110]⟩, .string ⟨#[105, 100]⟩] 9)).heap.size := by simp
          have HW2 := hidP (HWr.out.trans (sB.mono HWr.out.size))
          clear sX sB d0 d1 d2 d3 d4 d5 d6 d7 d8 d9 d10 d11
          generalize wr.alloc (.cells #[.string ⟨#[]⟩, .string ⟨#[105]⟩, .string ⟨#[111]⟩, .string ⟨#[105, 101]⟩, .string ⟨#[111, 110]⟩, .string ⟨#[105, 100]⟩] 9) = W2 at *
          have HSx : Hid (∀ x, Below W2.heap.size W2 x → (x.cell? ⟨w.heap.size, 0, none⟩ = some (.int .i64 2) ∧ x.cell? ⟨w.heap.size, 1, none⟩ = some (.int .i64 F) ∧ x.cell? ⟨w.heap.size, 2, none⟩ = some (.int .i64 T) ∧ x.cell? ⟨w.heap.size, 3, none⟩ = some (.int .i64 M) ∧ x.cell? ⟨w.heap.size, 4, none⟩ = some (.int .i64 I) ∧ x.cell? ⟨w.heap.size, 5, none⟩ = some (.int .i64 L) ∧ x.cell? ⟨w.heap.size, 6, none⟩ = some (.slice ea en ec) ∧ x.cell? ⟨w.heap.size, 7, none⟩ = some (.int .i64 C) ∧ x.cell? ⟨w.heap.size, 8, none⟩ = some (.bool O) ∧ x.cell? ⟨w.heap.size, 9, none⟩ = some (.slice da dn dc) ∧ x.cell? ⟨w.heap.size, 10, none⟩ = some (.slice ga gn gc) ∧ x.cell? ⟨w.heap.size, 11, none⟩ = some (.slice ha hn hc) ∧ x.cell? ⟨wr.heap.size, 2, none⟩ = some (.string ⟨#[111]⟩) ∧ Below W2.heap.size W2 x)) := hidP fun x h =>
            ⟨(h.cell hwr2).trans g0, (h.cell hwr2).trans g1, (h.cell hwr2).trans g2, (h.cell hwr2).trans g3, (h.cell hwr2).trans g4, (h.cell hwr2).trans g5, (h.cell hwr2).trans g6, (h.cell hwr2).trans g7, (h.cell hwr2).trans g8, (h.cell hwr2).trans g9, (h.cell hwr2).trans g10, (h.cell hwr2).trans g11, (h.cell hwr3).trans s2, h⟩
          refine wp_region_held_drew (S := (fun x => x.cell? ⟨w.heap.size, 0, none⟩ = some (.int .i64 2) ∧ x.cell? ⟨w.heap.size, 1, none⟩ = some (.int .i64 F) ∧ x.cell? ⟨w.heap.size, 2, none⟩ = some (.int .i64 T) ∧ x.cell? ⟨w.heap.size, 3, none⟩ = some (.int .i64 M) ∧ x.cell? ⟨w.heap.size, 4, none⟩ = some (.int .i64 I) ∧ x.cell? ⟨w.heap.size, 5, none⟩ = some (.int .i64 L) ∧ x.cell? ⟨w.heap.size, 6, none⟩ = some (.slice ea en ec) ∧ x.cell? ⟨w.heap.size, 7, none⟩ = some (.int .i64 C) ∧ x.cell? ⟨w.heap.size, 8, none⟩ = some (.bool O) ∧ x.cell? ⟨w.heap.size, 9, none⟩ = some (.slice da dn dc) ∧ x.cell? ⟨w.heap.size, 10, none⟩ = some (.slice ga gn gc) ∧ x.cell? ⟨w.heap.size, 11, none⟩ = some (.slice ha hn hc) ∧ x.cell? ⟨wr.heap.size, 2, none⟩ = some (.string ⟨#[111]⟩) ∧ Below W2.heap.size W2 x)) (by kernel_rfl) ?_ (fun hHeld => ?_)
          · try dsimp only
            exact HSx.out _ ((Below.refl _ _).drew)
          refine wpAnyH_take (i := 0) (oi := ⟨some 96, _, _, _, _, _⟩) (v := ?_) rfl (by kernel_rfl) (by kernel_rfl) (by kernel_rfl) (fun _ _ _ h => h) (Or.inl ⟨by rfl, ?_⟩) (by assumption) ?_
          rotate_left
          · intro w hSw
            try dsimp only at hSw
            go_simp
            try with_reducible rfl
          simp only [Act.put, List.setIfInBounds_toArray, List.set_cons_zero, List.set_cons_succ]
          refine wpAnyH_take (i := 1) (oi := ⟨some 97, _, _, _, _, _⟩) (v := ?_) rfl (by kernel_rfl) (by kernel_rfl) (by kernel_rfl) (fun _ _ _ h => h) (Or.inl ⟨by rfl, ?_⟩) (by assumption) ?_
          rotate_left
          · intro w hSw
            try dsimp only at hSw
            go_simp
            try with_reducible rfl
          simp only [Act.put, List.setIfInBounds_toArray, List.set_cons_zero, List.set_cons_succ]
          refine wpAnyH_take (i := 2) (oi := ⟨some 98, _, _, _, _, _⟩) (v := ?_) rfl (by kernel_rfl) (by kernel_rfl) (by kernel_rfl) (fun _ _ _ h => h) (Or.inl ⟨by rfl, ?_⟩) (by assumption) ?_
          rotate_left
          · intro w hSw
            try dsimp only at hSw
            go_simp
            try with_reducible rfl
          simp only [Act.put, List.setIfInBounds_toArray, List.set_cons_zero, List.set_cons_succ]
          refine wpAnyH_take (i := 3) (oi := ⟨some 99, _, _, _, _, _⟩) (v := ?_) rfl (by kernel_rfl) (by kernel_rfl) (by kernel_rfl) (fun _ _ _ h => h) (Or.inl ⟨by rfl, ?_⟩) (by assumption) ?_
          rotate_left
          · intro w hSw
            try dsimp only at hSw
            go_simp
            try with_reducible rfl
          simp only [Act.put, List.setIfInBounds_toArray, List.set_cons_zero, List.set_cons_succ]
          refine wpAnyH_take (i := 4) (oi := ⟨some 100, _, _, _, _, _⟩) (v := ?_) rfl (by kernel_rfl) (by kernel_rfl) (by kernel_rfl) (fun _ _ _ h => h) (Or.inl ⟨by rfl, ?_⟩) (by assumption) ?_
          rotate_left
          · intro w hSw
            try dsimp only at hSw
            go_simp
            try with_reducible rfl
          simp only [Act.put, List.setIfInBounds_toArray, List.set_cons_zero, List.set_cons_succ]
          refine wpAnyH_take (i := 5) (oi := ⟨some 101, _, _, _, _, _⟩) (v := ?_) rfl (by kernel_rfl) (by kernel_rfl) (by kernel_rfl) (fun _ _ _ h => h) (Or.inl ⟨by rfl, ?_⟩) (by assumption) ?_
          rotate_left
          · intro w hSw
            try dsimp only at hSw
            go_simp
            try with_reducible rfl
          simp only [Act.put, List.setIfInBounds_toArray, List.set_cons_zero, List.set_cons_succ]
          refine wpAnyH_ready (rs := [6]) (by kernel_rfl) (by simp) ?_
          refine AllReadyH.cons rfl (fun K hK => ?_) AllReadyH.nil
          go_simp
          go_wp2_with (first | (go_at_call 14; refine (HZ2.out _).mono ?_; rintro e w2 ⟨rfl, hb2⟩; have b2 := (hHeld.2.2.2.2.2.2.2.2.2.2.2.2.2).trans (hb2.mono (hHeld.2.2.2.2.2.2.2.2.2.2.2.2.2).size)))
          refine hK.out _ _ ?_ (fun hHeld => ?_)
          · try dsimp only
            exact HSx.out _ b2
          clear hK K
          refine wpAnyH_take (i := 7) (oi := ⟨some 103, _, _, _, _, _⟩) (v := ?_) rfl (by kernel_rfl) (by kernel_rfl) (by kernel_rfl) (fun _ _ _ h => h) (Or.inl ⟨by rfl, ?_⟩) (by assumption) ?_
          rotate_left
          · intro w hSw
            try dsimp only at hSw
            go_simp
            try with_reducible rfl
          simp only [Act.put, List.setIfInBounds_toArray, List.set_cons_zero, List.set_cons_succ]
          refine wpAnyH_take (i := 8) (oi := ⟨some 104, _, _, _, _, _⟩) (v := undef) rfl (by kernel_rfl) (by kernel_rfl) (by kernel_rfl) (fun _ _ _ h => h) (Or.inr ⟨by rfl, rfl⟩) (by assumption) ?_
          simp only [Act.put, List.setIfInBounds_toArray, List.set_cons_zero, List.set_cons_succ]
          refine wpAnyH_take (i := 9) (oi := ⟨some 105, _, _, _, _, _⟩) (v := undef) rfl (by kernel_rfl) (by kernel_rfl) (by kernel_rfl) (fun _ _ _ h => h) (Or.inr ⟨by rfl, rfl⟩) (by assumption) ?_
          simp only [Act.put, List.setIfInBounds_toArray, List.set_cons_zero, List.set_cons_succ]
          refine wpAnyH_take (i := 10) (oi := ⟨some 106, _, _, _, _, _⟩) (v := undef) rfl (by kernel_rfl) (by kernel_rfl) (by kernel_rfl) (fun _ _ _ h => h) (Or.inr ⟨by rfl, rfl⟩) (by assumption) ?_
          simp only [Act.put, List.setIfInBounds_toArray, List.set_cons_zero, List.set_cons_succ]
          refine wpAnyH_take (i := 11) (oi := ⟨some 107, _, _, _, _, _⟩) (v := undef) rfl (by kernel_rfl) (by kernel_rfl) (by kernel_rfl) (fun _ _ _ h => h) (Or.inr ⟨by rfl, rfl⟩) (by assumption) ?_
          simp only [Act.put, List.setIfInBounds_toArray, List.set_cons_zero, List.set_cons_succ]
          refine wpAnyH_take (i := 12) (oi := ⟨some 108, _, _, _, _, _⟩) (v := undef) rfl (by kernel_rfl) (by kernel_rfl) (by kernel_rfl) (fun _ _ _ h => h) (Or.inr ⟨by rfl, rfl⟩) (by assumption) ?_
          simp only [Act.put, List.setIfInBounds_toArray, List.set_cons_zero, List.set_cons_succ]
          refine wpAnyH_take (i := 13) (oi := ⟨some 109, _, _, _, _, _⟩) (v := undef) rfl (by kernel_rfl) (by kernel_rfl) (by kernel_rfl) (fun _ _ _ h => h) (Or.inr ⟨by rfl, rfl⟩) (by assumption) ?_
          simp only [Act.put, List.setIfInBounds_toArray, List.set_cons_zero, List.set_cons_succ]
          refine wpAnyH_take (i := 14) (oi := ⟨some 110, _, _, _, _, _⟩) (v := undef) rfl (by kernel_rfl) (by kernel_rfl) (by kernel_rfl) (fun _ _ _ h => h) (Or.inr ⟨by rfl, rfl⟩) (by assumption) ?_
          simp only [Act.put, List.setIfInBounds_toArray, List.set_cons_zero, List.set_cons_succ]
          refine wpAnyH_take (i := 15) (oi := ⟨some 111, _, _, _, _, _⟩) (v := undef) rfl (by kernel_rfl) (by kernel_rfl) (by kernel_rfl) (fun _ _ _ h => h) (Or.inr ⟨by rfl, rfl⟩) (by assumption) ?_
          simp only [Act.put, List.setIfInBounds_toArray, List.set_cons_zero, List.set_cons_succ]
          refine wpAnyH_take (i := 16) (oi := ⟨some 112, _, _, _, _, _⟩) (v := ?_) rfl (by kernel_rfl) (by kernel_rfl) (by kernel_rfl) (fun _ _ _ h => h) (Or.inl ⟨by rfl, ?_⟩) (by assumption) ?_
          rotate_left
          · intro w hSw
            try dsimp only at hSw
            go_simp
            try with_reducible rfl
          simp only [Act.put, List.setIfInBounds_toArray, List.set_cons_zero, List.set_cons_succ]
          refine wpAnyH_take (i := 17) (oi := ⟨some 2, _, _, _, _, _⟩) (v := ?_) rfl (by kernel_rfl) (by kernel_rfl) (by kernel_rfl) (fun _ _ _ h => h) (Or.inl ⟨by rfl, ?_⟩) (by assumption) ?_
          rotate_left
          · intro w hSw
            try dsimp only at hSw
            go_simp
            try with_reducible rfl
          simp only [Act.put, List.setIfInBounds_toArray, List.set_cons_zero, List.set_cons_succ]
          have HE := hidP (hHeld.2.2.2.2.2.2.2.2.2.2.2.2.2)
          refine wpAnyH_done (by kernel_rfl) ?_ _
          clear hHeld
          go_wp2_with fail
          go_ret
          exact ⟨by rw [← HS.out, ← hkb, hzz]; rfl, HW2.out.trans (HE.out.mono HW2.out.size)⟩
        · rw [hzz] at HZ2
          go_wp2_with fail
          have sB := alloc_below wr (.cells #[.string ⟨#[]⟩, .string ⟨#[105]⟩, .string ⟨#[111]⟩, .string ⟨#[105, 101]⟩, .string ⟨#[111, 110]⟩, .string ⟨#[105, 100]⟩] 9)
          have sX : ∀ (j : Nat) (v : Value), (#[.string ⟨#[]⟩, .string ⟨#[105]⟩, .string ⟨#[111]⟩, .string ⟨#[105, 101]⟩, .string ⟨#[111, 110]⟩, .string ⟨#[105, 100]⟩] : Array Value)[j]? = some v → (wr.alloc (.cells #[.string ⟨#[]⟩, .string ⟨#[105]⟩, .string ⟨#[111]⟩, .string ⟨#[105, 101]⟩, .string ⟨#[111, 110]⟩, .string ⟨#[105, 100]⟩] 9)).cell? ⟨wr.heap.size, j, none⟩ = some v := fun j v hv => by simp only [go_sem]; simp [hv]
          have s2 := sX 2 _ rfl
          have g0 := (sB.cell hwr).trans d0
          have g1 := (sB.cell hwr).trans d1
          have g2 := (sB.cell hwr).trans d2
          have g3 := (sB.cell hwr).trans d3
          have g4 := (sB.cell hwr).trans d4
          have g5 := (sB.cell hwr).trans d5
          have g6 := (sB.cell hwr).trans d6
          have g7 := (sB.cell hwr).trans d7
          have g8 := (sB.cell hwr).trans d8
          have g9 := (sB.cell hwr).trans d9
          have g10 := (sB.cell hwr).trans d10
          have g11 := (sB.cell hwr).trans d11
          have hwr2 : w.heap.size < (wr.alloc (.cells #[.string ⟨#[]⟩, .string ⟨#[105]⟩, .string ⟨#[111]⟩, .string ⟨#[105, 101]⟩, .string ⟨#[111, 110]⟩, .string ⟨#[105, 100]⟩] 9)).heap.size := by simp; omega
          have hwr3 : wr.heap.size < (wr.alloc (.cells #[.string ⟨#[]⟩, .string ⟨#[105]⟩, .string ⟨#[111]⟩, .string ⟨#[105, 101]⟩, .string ⟨#[111, 110]⟩, .string ⟨#[105, 100]⟩] 9)).heap.size := by simp
          have HW2 := hidP (HWr.out.trans (sB.mono HWr.out.size))
          clear sX sB d0 d1 d2 d3 d4 d5 d6 d7 d8 d9 d10 d11
          generalize wr.alloc (.cells #[.string ⟨#[]⟩, .string ⟨#[105]⟩, .string ⟨#[111]⟩, .string ⟨#[105, 101]⟩, .string ⟨#[111, 110]⟩, .string ⟨#[105, 100]⟩] 9) = W2 at *
          have HSx : Hid (∀ x, Below W2.heap.size W2 x → (x.cell? ⟨w.heap.size, 0, none⟩ = some (.int .i64 2) ∧ x.cell? ⟨w.heap.size, 1, none⟩ = some (.int .i64 F) ∧ x.cell? ⟨w.heap.size, 2, none⟩ = some (.int .i64 T) ∧ x.cell? ⟨w.heap.size, 3, none⟩ = some (.int .i64 M) ∧ x.cell? ⟨w.heap.size, 4, none⟩ = some (.int .i64 I) ∧ x.cell? ⟨w.heap.size, 5, none⟩ = some (.int .i64 L) ∧ x.cell? ⟨w.heap.size, 6, none⟩ = some (.slice ea en ec) ∧ x.cell? ⟨w.heap.size, 7, none⟩ = some (.int .i64 C) ∧ x.cell? ⟨w.heap.size, 8, none⟩ = some (.bool O) ∧ x.cell? ⟨w.heap.size, 9, none⟩ = some (.slice da dn dc) ∧ x.cell? ⟨w.heap.size, 10, none⟩ = some (.slice ga gn gc) ∧ x.cell? ⟨w.heap.size, 11, none⟩ = some (.slice ha hn hc) ∧ x.cell? ⟨wr.heap.size, 2, none⟩ = some (.string ⟨#[111]⟩) ∧ Below W2.heap.size W2 x)) := hidP fun x h =>
            ⟨(h.cell hwr2).trans g0, (h.cell hwr2).trans g1, (h.cell hwr2).trans g2, (h.cell hwr2).trans g3, (h.cell hwr2).trans g4, (h.cell hwr2).trans g5, (h.cell hwr2).trans g6, (h.cell hwr2).trans g7, (h.cell hwr2).trans g8, (h.cell hwr2).trans g9, (h.cell hwr2).trans g10, (h.cell hwr2).trans g11, (h.cell hwr3).trans s2, h⟩
          refine wp_region_held_drew (S := (fun x => x.cell? ⟨w.heap.size, 0, none⟩ = some (.int .i64 2) ∧ x.cell? ⟨w.heap.size, 1, none⟩ = some (.int .i64 F) ∧ x.cell? ⟨w.heap.size, 2, none⟩ = some (.int .i64 T) ∧ x.cell? ⟨w.heap.size, 3, none⟩ = some (.int .i64 M) ∧ x.cell? ⟨w.heap.size, 4, none⟩ = some (.int .i64 I) ∧ x.cell? ⟨w.heap.size, 5, none⟩ = some (.int .i64 L) ∧ x.cell? ⟨w.heap.size, 6, none⟩ = some (.slice ea en ec) ∧ x.cell? ⟨w.heap.size, 7, none⟩ = some (.int .i64 C) ∧ x.cell? ⟨w.heap.size, 8, none⟩ = some (.bool O) ∧ x.cell? ⟨w.heap.size, 9, none⟩ = some (.slice da dn dc) ∧ x.cell? ⟨w.heap.size, 10, none⟩ = some (.slice ga gn gc) ∧ x.cell? ⟨w.heap.size, 11, none⟩ = some (.slice ha hn hc) ∧ x.cell? ⟨wr.heap.size, 2, none⟩ = some (.string ⟨#[111]⟩) ∧ Below W2.heap.size W2 x)) (by kernel_rfl) ?_ (fun hHeld => ?_)
          · try dsimp only
            exact HSx.out _ ((Below.refl _ _).drew)
          refine wpAnyH_take (i := 0) (oi := ⟨some 96, _, _, _, _, _⟩) (v := ?_) rfl (by kernel_rfl) (by kernel_rfl) (by kernel_rfl) (fun _ _ _ h => h) (Or.inl ⟨by rfl, ?_⟩) (by assumption) ?_
          rotate_left
          · intro w hSw
            try dsimp only at hSw
            go_simp
            try with_reducible rfl
          simp only [Act.put, List.setIfInBounds_toArray, List.set_cons_zero, List.set_cons_succ]
          refine wpAnyH_take (i := 1) (oi := ⟨some 97, _, _, _, _, _⟩) (v := ?_) rfl (by kernel_rfl) (by kernel_rfl) (by kernel_rfl) (fun _ _ _ h => h) (Or.inl ⟨by rfl, ?_⟩) (by assumption) ?_
          rotate_left
          · intro w hSw
            try dsimp only at hSw
            go_simp
            try with_reducible rfl
          simp only [Act.put, List.setIfInBounds_toArray, List.set_cons_zero, List.set_cons_succ]
          refine wpAnyH_take (i := 2) (oi := ⟨some 98, _, _, _, _, _⟩) (v := ?_) rfl (by kernel_rfl) (by kernel_rfl) (by kernel_rfl) (fun _ _ _ h => h) (Or.inl ⟨by rfl, ?_⟩) (by assumption) ?_
          rotate_left
          · intro w hSw
            try dsimp only at hSw
            go_simp
            try with_reducible rfl
          simp only [Act.put, List.setIfInBounds_toArray, List.set_cons_zero, List.set_cons_succ]
          refine wpAnyH_take (i := 3) (oi := ⟨some 99, _, _, _, _, _⟩) (v := ?_) rfl (by kernel_rfl) (by kernel_rfl) (by kernel_rfl) (fun _ _ _ h => h) (Or.inl ⟨by rfl, ?_⟩) (by assumption) ?_
          rotate_left
          · intro w hSw
            try dsimp only at hSw
            go_simp
            try with_reducible rfl
          simp only [Act.put, List.setIfInBounds_toArray, List.set_cons_zero, List.set_cons_succ]
          refine wpAnyH_take (i := 4) (oi := ⟨some 100, _, _, _, _, _⟩) (v := ?_) rfl (by kernel_rfl) (by kernel_rfl) (by kernel_rfl) (fun _ _ _ h => h) (Or.inl ⟨by rfl, ?_⟩) (by assumption) ?_
          rotate_left
          · intro w hSw
            try dsimp only at hSw
            go_simp
            try with_reducible rfl
          simp only [Act.put, List.setIfInBounds_toArray, List.set_cons_zero, List.set_cons_succ]
          refine wpAnyH_take (i := 5) (oi := ⟨some 101, _, _, _, _, _⟩) (v := ?_) rfl (by kernel_rfl) (by kernel_rfl) (by kernel_rfl) (fun _ _ _ h => h) (Or.inl ⟨by rfl, ?_⟩) (by assumption) ?_
          rotate_left
          · intro w hSw
            try dsimp only at hSw
            go_simp
            try with_reducible rfl
          simp only [Act.put, List.setIfInBounds_toArray, List.set_cons_zero, List.set_cons_succ]
          refine wpAnyH_ready (rs := [6]) (by kernel_rfl) (by simp) ?_
          refine AllReadyH.cons rfl (fun K hK => ?_) AllReadyH.nil
          go_simp
          go_wp2_with (first | (go_at_call 14; refine (HZ2.out _).mono ?_; rintro e w2 ⟨rfl, hb2⟩; have b2 := (hHeld.2.2.2.2.2.2.2.2.2.2.2.2.2).trans (hb2.mono (hHeld.2.2.2.2.2.2.2.2.2.2.2.2.2).size)))
          refine hK.out _ _ ?_ (fun hHeld => ?_)
          · try dsimp only
            exact HSx.out _ b2
          clear hK K
          refine wpAnyH_take (i := 7) (oi := ⟨some 103, _, _, _, _, _⟩) (v := ?_) rfl (by kernel_rfl) (by kernel_rfl) (by kernel_rfl) (fun _ _ _ h => h) (Or.inl ⟨by rfl, ?_⟩) (by assumption) ?_
          rotate_left
          · intro w hSw
            try dsimp only at hSw
            go_simp
            try with_reducible rfl
          simp only [Act.put, List.setIfInBounds_toArray, List.set_cons_zero, List.set_cons_succ]
          refine wpAnyH_take (i := 8) (oi := ⟨some 104, _, _, _, _, _⟩) (v := ?_) rfl (by kernel_rfl) (by kernel_rfl) (by kernel_rfl) (fun _ _ _ h => h) (Or.inl ⟨by rfl, ?_⟩) (by assumption) ?_
          rotate_left
          · intro w hSw
            try dsimp only at hSw
            go_simp
            try with_reducible rfl
          simp only [Act.put, List.setIfInBounds_toArray, List.set_cons_zero, List.set_cons_succ]
          refine wpAnyH_take (i := 9) (oi := ⟨some 105, _, _, _, _, _⟩) (v := ?_) rfl (by kernel_rfl) (by kernel_rfl) (by kernel_rfl) (fun _ _ _ h => h) (Or.inl ⟨by rfl, ?_⟩) (by assumption) ?_
          rotate_left
          · intro w hSw
            try dsimp only at hSw
            go_simp
            try with_reducible rfl
          simp only [Act.put, List.setIfInBounds_toArray, List.set_cons_zero, List.set_cons_succ]
          refine wpAnyH_take (i := 10) (oi := ⟨some 106, _, _, _, _, _⟩) (v := ?_) rfl (by kernel_rfl) (by kernel_rfl) (by kernel_rfl) (fun _ _ _ h => h) (Or.inl ⟨by rfl, ?_⟩) (by assumption) ?_
          rotate_left
          · intro w hSw
            try dsimp only at hSw
            go_simp
            try with_reducible rfl
          simp only [Act.put, List.setIfInBounds_toArray, List.set_cons_zero, List.set_cons_succ]
          refine wpAnyH_take (i := 11) (oi := ⟨some 107, _, _, _, _, _⟩) (v := ?_) rfl (by kernel_rfl) (by kernel_rfl) (by kernel_rfl) (fun _ _ _ h => h) (Or.inl ⟨by rfl, ?_⟩) (by assumption) ?_
          rotate_left
          · intro w hSw
            try dsimp only at hSw
            go_simp
            try with_reducible rfl
          simp only [Act.put, List.setIfInBounds_toArray, List.set_cons_zero, List.set_cons_succ]
          refine wpAnyH_take (i := 12) (oi := ⟨some 108, _, _, _, _, _⟩) (v := undef) rfl (by kernel_rfl) (by kernel_rfl) (by kernel_rfl) (fun _ _ _ h => h) (Or.inr ⟨by rfl, rfl⟩) (by assumption) ?_
          simp only [Act.put, List.setIfInBounds_toArray, List.set_cons_zero, List.set_cons_succ]
          refine wpAnyH_take (i := 13) (oi := ⟨some 109, _, _, _, _, _⟩) (v := undef) rfl (by kernel_rfl) (by kernel_rfl) (by kernel_rfl) (fun _ _ _ h => h) (Or.inr ⟨by rfl, rfl⟩) (by assumption) ?_
          simp only [Act.put, List.setIfInBounds_toArray, List.set_cons_zero, List.set_cons_succ]
          refine wpAnyH_take (i := 14) (oi := ⟨some 110, _, _, _, _, _⟩) (v := undef) rfl (by kernel_rfl) (by kernel_rfl) (by kernel_rfl) (fun _ _ _ h => h) (Or.inr ⟨by rfl, rfl⟩) (by assumption) ?_
          simp only [Act.put, List.setIfInBounds_toArray, List.set_cons_zero, List.set_cons_succ]
          refine wpAnyH_take (i := 15) (oi := ⟨some 111, _, _, _, _, _⟩) (v := ?_) rfl (by kernel_rfl) (by kernel_rfl) (by kernel_rfl) (fun _ _ _ h => h) (Or.inl ⟨by rfl, ?_⟩) (by assumption) ?_
          rotate_left
          · intro w hSw
            try dsimp only at hSw
            go_simp
            try with_reducible rfl
          simp only [Act.put, List.setIfInBounds_toArray, List.set_cons_zero, List.set_cons_succ]
          refine wpAnyH_take (i := 16) (oi := ⟨some 112, _, _, _, _, _⟩) (v := ?_) rfl (by kernel_rfl) (by kernel_rfl) (by kernel_rfl) (fun _ _ _ h => h) (Or.inl ⟨by rfl, ?_⟩) (by assumption) ?_
          rotate_left
          · intro w hSw
            try dsimp only at hSw
            go_simp
            try with_reducible rfl
          simp only [Act.put, List.setIfInBounds_toArray, List.set_cons_zero, List.set_cons_succ]
          refine wpAnyH_take (i := 17) (oi := ⟨some 2, _, _, _, _, _⟩) (v := ?_) rfl (by kernel_rfl) (by kernel_rfl) (by kernel_rfl) (fun _ _ _ h => h) (Or.inl ⟨by rfl, ?_⟩) (by assumption) ?_
          rotate_left
          · intro w hSw
            try dsimp only at hSw
            go_simp
            try with_reducible rfl
          simp only [Act.put, List.setIfInBounds_toArray, List.set_cons_zero, List.set_cons_succ]
          have HE := hidP (hHeld.2.2.2.2.2.2.2.2.2.2.2.2.2)
          refine wpAnyH_done (by kernel_rfl) ?_ _
          clear hHeld
          go_wp2_with fail
          go_ret
          exact ⟨by rw [← HS.out, ← hkb, hzz]; rfl, HW2.out.trans (HE.out.mono HW2.out.size)⟩
      · have hkb : z3 = KB := by have := HKB.out; simpa using this
        cases hzz : z3
        · rw [hzz] at HZ3
          go_wp2_with fail
          have sB := alloc_below wr (.cells #[.string ⟨#[]⟩, .string ⟨#[105]⟩, .string ⟨#[111]⟩, .string ⟨#[105, 101]⟩, .string ⟨#[111, 110]⟩, .string ⟨#[105, 100]⟩] 9)
          have sX : ∀ (j : Nat) (v : Value), (#[.string ⟨#[]⟩, .string ⟨#[105]⟩, .string ⟨#[111]⟩, .string ⟨#[105, 101]⟩, .string ⟨#[111, 110]⟩, .string ⟨#[105, 100]⟩] : Array Value)[j]? = some v → (wr.alloc (.cells #[.string ⟨#[]⟩, .string ⟨#[105]⟩, .string ⟨#[111]⟩, .string ⟨#[105, 101]⟩, .string ⟨#[111, 110]⟩, .string ⟨#[105, 100]⟩] 9)).cell? ⟨wr.heap.size, j, none⟩ = some v := fun j v hv => by simp only [go_sem]; simp [hv]
          have s3 := sX 3 _ rfl
          have g0 := (sB.cell hwr).trans d0
          have g1 := (sB.cell hwr).trans d1
          have g2 := (sB.cell hwr).trans d2
          have g3 := (sB.cell hwr).trans d3
          have g4 := (sB.cell hwr).trans d4
          have g5 := (sB.cell hwr).trans d5
          have g6 := (sB.cell hwr).trans d6
          have g7 := (sB.cell hwr).trans d7
          have g8 := (sB.cell hwr).trans d8
          have g9 := (sB.cell hwr).trans d9
          have g10 := (sB.cell hwr).trans d10
          have g11 := (sB.cell hwr).trans d11
          have hwr2 : w.heap.size < (wr.alloc (.cells #[.string ⟨#[]⟩, .string ⟨#[105]⟩, .string ⟨#[111]⟩, .string ⟨#[105, 101]⟩, .string ⟨#[111, 110]⟩, .string ⟨#[105, 100]⟩] 9)).heap.size := by simp; omega
          have hwr3 : wr.heap.size < (wr.alloc (.cells #[.string ⟨#[]⟩, .string ⟨#[105]⟩, .string ⟨#[111]⟩, .string ⟨#[105, 101]⟩, .string ⟨#[111, 110]⟩, .string ⟨#[105, 100]⟩] 9)).heap.size := by simp
          have HW2 := hidP (HWr.out.trans (sB.mono HWr.out.size))
          clear sX sB d0 d1 d2 d3 d4 d5 d6 d7 d8 d9 d10 d11
          generalize wr.alloc (.cells #[.string ⟨#[]⟩, .string ⟨#[105]⟩, .string ⟨#[111]⟩, .string ⟨#[105, 101]⟩, .string ⟨#[111, 110]⟩, .string ⟨#[105, 100]⟩] 9) = W2 at *
          have HSx : Hid (∀ x, Below W2.heap.size W2 x → (x.cell? ⟨w.heap.size, 0, none⟩ = some (.int .i64 3) ∧ x.cell? ⟨w.heap.size, 1, none⟩ = some (.int .i64 F) ∧ x.cell? ⟨w.heap.size, 2, none⟩ = some (.int .i64 T) ∧ x.cell? ⟨w.heap.size, 3, none⟩ = some (.int .i64 M) ∧ x.cell? ⟨w.heap.size, 4, none⟩ = some (.int .i64 I) ∧ x.cell? ⟨w.heap.size, 5, none⟩ = some (.int .i64 L) ∧ x.cell? ⟨w.heap.size, 6, none⟩ = some (.slice ea en ec) ∧ x.cell? ⟨w.heap.size, 7, none⟩ = some (.int .i64 C) ∧ x.cell? ⟨w.heap.size, 8, none⟩ = some (.bool O) ∧ x.cell? ⟨w.heap.size, 9, none⟩ = some (.slice da dn dc) ∧ x.cell? ⟨w.heap.size, 10, none⟩ = some (.slice ga gn gc) ∧ x.cell? ⟨w.heap.size, 11, none⟩ = some (.slice ha hn hc) ∧ x.cell? ⟨wr.heap.size, 3, none⟩ = some (.string ⟨#[105, 101]⟩) ∧ Below W2.heap.size W2 x)) := hidP fun x h =>
            ⟨(h.cell hwr2).trans g0, (h.cell hwr2).trans g1, (h.cell hwr2).trans g2, (h.cell hwr2).trans g3, (h.cell hwr2).trans g4, (h.cell hwr2).trans g5, (h.cell hwr2).trans g6, (h.cell hwr2).trans g7, (h.cell hwr2).trans g8, (h.cell hwr2).trans g9, (h.cell hwr2).trans g10, (h.cell hwr2).trans g11, (h.cell hwr3).trans s3, h⟩
          refine wp_region_held_drew (S := (fun x => x.cell? ⟨w.heap.size, 0, none⟩ = some (.int .i64 3) ∧ x.cell? ⟨w.heap.size, 1, none⟩ = some (.int .i64 F) ∧ x.cell? ⟨w.heap.size, 2, none⟩ = some (.int .i64 T) ∧ x.cell? ⟨w.heap.size, 3, none⟩ = some (.int .i64 M) ∧ x.cell? ⟨w.heap.size, 4, none⟩ = some (.int .i64 I) ∧ x.cell? ⟨w.heap.size, 5, none⟩ = some (.int .i64 L) ∧ x.cell? ⟨w.heap.size, 6, none⟩ = some (.slice ea en ec) ∧ x.cell? ⟨w.heap.size, 7, none⟩ = some (.int .i64 C) ∧ x.cell? ⟨w.heap.size, 8, none⟩ = some (.bool O) ∧ x.cell? ⟨w.heap.size, 9, none⟩ = some (.slice da dn dc) ∧ x.cell? ⟨w.heap.size, 10, none⟩ = some (.slice ga gn gc) ∧ x.cell? ⟨w.heap.size, 11, none⟩ = some (.slice ha hn hc) ∧ x.cell? ⟨wr.heap.size, 3, none⟩ = some (.string ⟨#[105, 101]⟩) ∧ Below W2.heap.size W2 x)) (by kernel_rfl) ?_ (fun hHeld => ?_)
          · try dsimp only
            exact HSx.out _ ((Below.refl _ _).drew)
          refine wpAnyH_take (i := 0) (oi := ⟨some 96, _, _, _, _, _⟩) (v := ?_) rfl (by kernel_rfl) (by kernel_rfl) (by kernel_rfl) (fun _ _ _ h => h) (Or.inl ⟨by rfl, ?_⟩) (by assumption) ?_
          rotate_left
          · intro w hSw
            try dsimp only at hSw
            go_simp
            try with_reducible rfl
          simp only [Act.put, List.setIfInBounds_toArray, List.set_cons_zero, List.set_cons_succ]
          refine wpAnyH_take (i := 1) (oi := ⟨some 97, _, _, _, _, _⟩) (v := ?_) rfl (by kernel_rfl) (by kernel_rfl) (by kernel_rfl) (fun _ _ _ h => h) (Or.inl ⟨by rfl, ?_⟩) (by assumption) ?_
          rotate_left
          · intro w hSw
            try dsimp only at hSw
            go_simp
            try with_reducible rfl
          simp only [Act.put, List.setIfInBounds_toArray, List.set_cons_zero, List.set_cons_succ]
          refine wpAnyH_take (i := 2) (oi := ⟨some 98, _, _, _, _, _⟩) (v := ?_) rfl (by kernel_rfl) (by kernel_rfl) (by kernel_rfl) (fun _ _ _ h => h) (Or.inl ⟨by rfl, ?_⟩) (by assumption) ?_
          rotate_left
          · intro w hSw
            try dsimp only at hSw
            go_simp
            try with_reducible rfl
          simp only [Act.put, List.setIfInBounds_toArray, List.set_cons_zero, List.set_cons_succ]
          refine wpAnyH_take (i := 3) (oi := ⟨some 99, _, _, _, _, _⟩) (v := ?_) rfl (by kernel_rfl) (by kernel_rfl) (by kernel_rfl) (fun _ _ _ h => h) (Or.inl ⟨by rfl, ?_⟩) (by assumption) ?_
          rotate_left
          · intro w hSw
            try dsimp only at hSw
            go_simp
            try with_reducible rfl
          simp only [Act.put, List.setIfInBounds_toArray, List.set_cons_zero, List.set_cons_succ]
          refine wpAnyH_take (i := 4) (oi := ⟨some 100, _, _, _, _, _⟩) (v := ?_) rfl (by kernel_rfl) (by kernel_rfl) (by kernel_rfl) (fun _ _ _ h => h) (Or.inl ⟨by rfl, ?_⟩) (by assumption) ?_
          rotate_left
          · intro w hSw
            try dsimp only at hSw
            go_simp
            try with_reducible rfl
          simp only [Act.put, List.setIfInBounds_toArray, List.set_cons_zero, List.set_cons_succ]
          refine wpAnyH_take (i := 5) (oi := ⟨some 101, _, _, _, _, _⟩) (v := ?_) rfl (by kernel_rfl) (by kernel_rfl) (by kernel_rfl) (fun _ _ _ h => h) (Or.inl ⟨by rfl, ?_⟩) (by assumption) ?_
          rotate_left
          · intro w hSw
            try dsimp only at hSw
            go_simp
            try with_reducible rfl
          simp only [Act.put, List.setIfInBounds_toArray, List.set_cons_zero, List.set_cons_succ]
          refine wpAnyH_ready (rs := [6]) (by kernel_rfl) (by simp) ?_
          refine AllReadyH.cons rfl (fun K hK => ?_) AllReadyH.nil
          go_simp
          go_wp2_with (first | (go_at_call 14; refine (HZ3.out _).mono ?_; rintro e w2 ⟨rfl, hb2⟩; have b2 := (hHeld.2.2.2.2.2.2.2.2.2.2.2.2.2).trans (hb2.mono (hHeld.2.2.2.2.2.2.2.2.2.2.2.2.2).size)))
          refine hK.out _ _ ?_ (fun hHeld => ?_)
          · try dsimp only
            exact HSx.out _ b2
          clear hK K
          refine wpAnyH_take (i := 7) (oi := ⟨some 103, _, _, _, _, _⟩) (v := ?_) rfl (by kernel_rfl) (by kernel_rfl) (by kernel_rfl) (fun _ _ _ h => h) (Or.inl ⟨by rfl, ?_⟩) (by assumption) ?_
          rotate_left
          · intro w hSw
            try dsimp only at hSw
            go_simp
            try with_reducible rfl
          simp only [Act.put, List.setIfInBounds_toArray, List.set_cons_zero, List.set_cons_succ]
          refine wpAnyH_take (i := 8) (oi := ⟨some 104, _, _, _, _, _⟩) (v := undef) rfl (by kernel_rfl) (by kernel_rfl) (by kernel_rfl) (fun _ _ _ h => h) (Or.inr ⟨by rfl, rfl⟩) (by assumption) ?_
          simp only [Act.put, List.setIfInBounds_toArray, List.set_cons_zero, List.set_cons_succ]
          refine wpAnyH_take (i := 9) (oi := ⟨some 105, _, _, _, _, _⟩) (v := undef) rfl (by kernel_rfl) (by kernel_rfl) (by kernel_rfl) (fun _ _ _ h => h) (Or.inr ⟨by rfl, rfl⟩) (by assumption) ?_
          simp only [Act.put, List.setIfInBounds_toArray, List.set_cons_zero, List.set_cons_succ]
          refine wpAnyH_take (i := 10) (oi := ⟨some 106, _, _, _, _, _⟩) (v := undef) rfl (by kernel_rfl) (by kernel_rfl) (by kernel_rfl) (fun _ _ _ h => h) (Or.inr ⟨by rfl, rfl⟩) (by assumption) ?_
          simp only [Act.put, List.setIfInBounds_toArray, List.set_cons_zero, List.set_cons_succ]
          refine wpAnyH_take (i := 11) (oi := ⟨some 107, _, _, _, _, _⟩) (v := undef) rfl (by kernel_rfl) (by kernel_rfl) (by kernel_rfl) (fun _ _ _ h => h) (Or.inr ⟨by rfl, rfl⟩) (by assumption) ?_
          simp only [Act.put, List.setIfInBounds_toArray, List.set_cons_zero, List.set_cons_succ]
          refine wpAnyH_take (i := 12) (oi := ⟨some 108, _, _, _, _, _⟩) (v := undef) rfl (by kernel_rfl) (by kernel_rfl) (by kernel_rfl) (fun _ _ _ h => h) (Or.inr ⟨by rfl, rfl⟩) (by assumption) ?_
          simp only [Act.put, List.setIfInBounds_toArray, List.set_cons_zero, List.set_cons_succ]
          refine wpAnyH_take (i := 13) (oi := ⟨some 109, _, _, _, _, _⟩) (v := undef) rfl (by kernel_rfl) (by kernel_rfl) (by kernel_rfl) (fun _ _ _ h => h) (Or.inr ⟨by rfl, rfl⟩) (by assumption) ?_
          simp only [Act.put, List.setIfInBounds_toArray, List.set_cons_zero, List.set_cons_succ]
          refine wpAnyH_take (i := 14) (oi := ⟨some 110, _, _, _, _, _⟩) (v := undef) rfl (by kernel_rfl) (by kernel_rfl) (by kernel_rfl) (fun _ _ _ h => h) (Or.inr ⟨by rfl, rfl⟩) (by assumption) ?_
          simp only [Act.put, List.setIfInBounds_toArray, List.set_cons_zero, List.set_cons_succ]
          refine wpAnyH_take (i := 15) (oi := ⟨some 111, _, _, _, _, _⟩) (v := undef) rfl (by kernel_rfl) (by kernel_rfl) (by kernel_rfl) (fun _ _ _ h => h) (Or.inr ⟨by rfl, rfl⟩) (by assumption) ?_
          simp only [Act.put, List.setIfInBounds_toArray, List.set_cons_zero, List.set_cons_succ]
          refine wpAnyH_take (i := 16) (oi := ⟨some 112, _, _, _, _, _⟩) (v := ?_) rfl (by kernel_rfl) (by kernel_rfl) (by kernel_rfl) (fun _ _ _ h => h) (Or.inl ⟨by rfl, ?_⟩) (by assumption) ?_
          rotate_left
          · intro w hSw
            try dsimp only at hSw
            go_simp
            try with_reducible rfl
          simp only [Act.put, List.setIfInBounds_toArray, List.set_cons_zero, List.set_cons_succ]
          refine wpAnyH_take (i := 17) (oi := ⟨some 2, _, _, _, _, _⟩) (v := ?_) rfl (by kernel_rfl) (by kernel_rfl) (by kernel_rfl) (fun _ _ _ h => h) (Or.inl ⟨by rfl, ?_⟩) (by assumption) ?_
          rotate_left
          · intro w hSw
            try dsimp only at hSw
            go_simp
            try with_reducible rfl
          simp only [Act.put, List.setIfInBounds_toArray, List.set_cons_zero, List.set_cons_succ]
          have HE := hidP (hHeld.2.2.2.2.2.2.2.2.2.2.2.2.2)
          refine wpAnyH_done (by kernel_rfl) ?_ _
          clear hHeld
          go_wp2_with fail
          go_ret
          exact ⟨by rw [← HS.out, ← hkb, hzz]; rfl, HW2.out.trans (HE.out.mono HW2.out.size)⟩
        · rw [hzz] at HZ3
          go_wp2_with fail
          have sB := alloc_below wr (.cells #[.string ⟨#[]⟩, .string ⟨#[105]⟩, .string ⟨#[111]⟩, .string ⟨#[105, 101]⟩, .string ⟨#[111, 110]⟩, .string ⟨#[105, 100]⟩] 9)
          have sX : ∀ (j : Nat) (v : Value), (#[.string ⟨#[]⟩, .string ⟨#[105]⟩, .string ⟨#[111]⟩, .string ⟨#[105, 101]⟩, .string ⟨#[111, 110]⟩, .string ⟨#[105, 100]⟩] : Array Value)[j]? = some v → (wr.alloc (.cells #[.string ⟨#[]⟩, .string ⟨#[105]⟩, .string ⟨#[111]⟩, .string ⟨#[105, 101]⟩, .string ⟨#[111, 110]⟩, .string ⟨#[105, 100]⟩] 9)).cell? ⟨wr.heap.size, j, none⟩ = some v := fun j v hv => by simp only [go_sem]; simp [hv]
          have s3 := sX 3 _ rfl
          have g0 := (sB.cell hwr).trans d0
          have g1 := (sB.cell hwr).trans d1
          have g2 := (sB.cell hwr).trans d2
          have g3 := (sB.cell hwr).trans d3
          have g4 := (sB.cell hwr).trans d4
          have g5 := (sB.cell hwr).trans d5
          have g6 := (sB.cell hwr).trans d6
          have g7 := (sB.cell hwr).trans d7
          have g8 := (sB.cell hwr).trans d8
          have g9 := (sB.cell hwr).trans d9
          have g10 := (sB.cell hwr).trans d10
          have g11 := (sB.cell hwr).trans d11
          have hwr2 : w.heap.size < (wr.alloc (.cells #[.string ⟨#[]⟩, .string ⟨#[105]⟩, .string ⟨#[111]⟩, .string ⟨#[105, 101]⟩, .string ⟨#[111, 110]⟩, .string ⟨#[105, 100]⟩] 9)).heap.size := by simp; omega
          have hwr3 : wr.heap.size < (wr.alloc (.cells #[.string ⟨#[]⟩, .string ⟨#[105]⟩, .string ⟨#[111]⟩, .string ⟨#[105, 101]⟩, .string ⟨#[111, 110]⟩, .string ⟨#[105, 100]⟩] 9)).heap.size := by simp
          have HW2 := hidP (HWr.out.trans (sB.mono HWr.out.size))
          clear sX sB d0 d1 d2 d3 d4 d5 d6 d7 d8 d9 d10 d11
          generalize wr.alloc (.cells #[.string ⟨#[]⟩, .string ⟨#[105]⟩, .string ⟨#[111]⟩, .string ⟨#[105, 101]⟩, .string ⟨#[111, 110]⟩, .string ⟨#[105, 100]⟩] 9) = W2 at *
          have HSx : Hid (∀ x, Below W2.heap.size W2 x → (x.cell? ⟨w.heap.size, 0, none⟩ = some (.int .i64 3) ∧ x.cell? ⟨w.heap.size, 1, none⟩ = some (.int .i64 F) ∧ x.cell? ⟨w.heap.size, 2, none⟩ = some (.int .i64 T) ∧ x.cell? ⟨w.heap.size, 3, none⟩ = some (.int .i64 M) ∧ x.cell? ⟨w.heap.size, 4, none⟩ = some (.int .i64 I) ∧ x.cell? ⟨w.heap.size, 5, none⟩ = some (.int .i64 L) ∧ x.cell? ⟨w.heap.size, 6, none⟩ = some (.slice ea en ec) ∧ x.cell? ⟨w.heap.size, 7, none⟩ = some (.int .i64 C) ∧ x.cell? ⟨w.heap.size, 8, none⟩ = some (.bool O) ∧ x.cell? ⟨w.heap.size, 9, none⟩ = some (.slice da dn dc) ∧ x.cell? ⟨w.heap.size, 10, none⟩ = some (.slice ga gn gc) ∧ x.cell? ⟨w.heap.size, 11, none⟩ = some (.slice ha hn hc) ∧ x.cell? ⟨wr.heap.size, 3, none⟩ = some (.string ⟨#[105, 101]⟩) ∧ Below W2.heap.size W2 x)) := hidP fun x h =>
            ⟨(h.cell hwr2).trans g0, (h.cell hwr2).trans g1, (h.cell hwr2).trans g2, (h.cell hwr2).trans g3, (h.cell hwr2).trans g4, (h.cell hwr2).trans g5, (h.cell hwr2).trans g6, (h.cell hwr2).trans g7, (h.cell hwr2).trans g8, (h.cell hwr2).trans g9, (h.cell hwr2).trans g10, (h.cell hwr2).trans g11, (h.cell hwr3).trans s3, h⟩
          refine wp_region_held_drew (S := (fun x => x.cell? ⟨w.heap.size, 0, none⟩ = some (.int .i64 3) ∧ x.cell? ⟨w.heap.size, 1, none⟩ = some (.int .i64 F) ∧ x.cell? ⟨w.heap.size, 2, none⟩ = some (.int .i64 T) ∧ x.cell? ⟨w.heap.size, 3, none⟩ = some (.int .i64 M) ∧ x.cell? ⟨w.heap.size, 4, none⟩ = some (.int .i64 I) ∧ x.cell? ⟨w.heap.size, 5, none⟩ = some (.int .i64 L) ∧ x.cell? ⟨w.heap.size, 6, none⟩ = some (.slice ea en ec) ∧ x.cell? ⟨w.heap.size, 7, none⟩ = some (.int .i64 C) ∧ x.cell? ⟨w.heap.size, 8, none⟩ = some (.bool O) ∧ x.cell? ⟨w.heap.size, 9, none⟩ = some (.slice da dn dc) ∧ x.cell? ⟨w.heap.size, 10, none⟩ = some (.slice ga gn gc) ∧ x.cell? ⟨w.heap.size, 11, none⟩ = some (.slice ha hn hc) ∧ x.cell? ⟨wr.heap.size, 3, none⟩ = some (.string ⟨#[105, 101]⟩) ∧ Below W2.heap.size W2 x)) (by kernel_rfl) ?_ (fun hHeld => ?_)
          · try dsimp only
            exact HSx.out _ ((Below.refl _ _).drew)
          refine wpAnyH_take (i := 0) (oi := ⟨some 96, _, _, _, _, _⟩) (v := ?_) rfl (by kernel_rfl) (by kernel_rfl) (by kernel_rfl) (fun _ _ _ h => h) (Or.inl ⟨by rfl, ?_⟩) (by assumption) ?_
          rotate_left
          · intro w hSw
            try dsimp only at hSw
            go_simp
            try with_reducible rfl
          simp only [Act.put, List.setIfInBounds_toArray, List.set_cons_zero, List.set_cons_succ]
          refine wpAnyH_take (i := 1) (oi := ⟨some 97, _, _, _, _, _⟩) (v := ?_) rfl (by kernel_rfl) (by kernel_rfl) (by kernel_rfl) (fun _ _ _ h => h) (Or.inl ⟨by rfl, ?_⟩) (by assumption) ?_
          rotate_left
          · intro w hSw
            try dsimp only at hSw
            go_simp
            try with_reducible rfl
          simp only [Act.put, List.setIfInBounds_toArray, List.set_cons_zero, List.set_cons_succ]
          refine wpAnyH_take (i := 2) (oi := ⟨some 98, _, _, _, _, _⟩) (v := ?_) rfl (by kernel_rfl) (by kernel_rfl) (by kernel_rfl) (fun _ _ _ h => h) (Or.inl ⟨by rfl, ?_⟩) (by assumption) ?_
          rotate_left
          · intro w hSw
            try dsimp only at hSw
            go_simp
            try with_reducible rfl
          simp only [Act.put, List.setIfInBounds_toArray, List.set_cons_zero, List.set_cons_succ]
          refine wpAnyH_take (i := 3) (oi := ⟨some 99, _, _, _, _, _⟩) (v := ?_) rfl (by kernel_rfl) (by kernel_rfl) (by kernel_rfl) (fun _ _ _ h => h) (Or.inl ⟨by rfl, ?_⟩) (by assumption) ?_
          rotate_left
          · intro w hSw
            try dsimp only at hSw
            go_simp
            try with_reducible rfl
          simp only [Act.put, List.setIfInBounds_toArray, List.set_cons_zero, List.set_cons_succ]
          refine wpAnyH_take (i := 4) (oi := ⟨some 100, _, _, _, _, _⟩) (v := ?_) rfl (by kernel_rfl) (by kernel_rfl) (by kernel_rfl) (fun _ _ _ h => h) (Or.inl ⟨by rfl, ?_⟩) (by assumption) ?_
          rotate_left
          · intro w hSw
            try dsimp only at hSw
            go_simp
            try with_reducible rfl
          simp only [Act.put, List.setIfInBounds_toArray, List.set_cons_zero, List.set_cons_succ]
          refine wpAnyH_take (i := 5) (oi := ⟨some 101, _, _, _, _, _⟩) (v := ?_) rfl (by kernel_rfl) (by kernel_rfl) (by kernel_rfl) (fun _ _ _ h => h) (Or.inl ⟨by rfl, ?_⟩) (by assumption) ?_
          rotate_left
          · intro w hSw
            try dsimp only at hSw
            go_simp
            try with_reducible rfl
          simp only [Act.put, List.setIfInBounds_toArray, List.set_cons_zero, List.set_cons_succ]
          refine wpAnyH_ready (rs := [6]) (by kernel_rfl) (by simp) ?_
          refine AllReadyH.cons rfl (fun K hK => ?_) AllReadyH.nil
          go_simp
          go_wp2_with (first | (go_at_call 14; refine (HZ3.out _).mono ?_; rintro e w2 ⟨rfl, hb2⟩; have b2 := (hHeld.2.2.2.2.2.2.2.2.2.2.2.2.2).trans (hb2.mono (hHeld.2.2.2.2.2.2.2.2.2.2.2.2.2).size)))
          refine hK.out _ _ ?_ (fun hHeld => ?_)
          · try dsimp only
            exact HSx.out _ b2
          clear hK K
          refine wpAnyH_take (i := 7) (oi := ⟨some 103, _, _, _, _, _⟩) (v := ?_) rfl (by kernel_rfl) (by kernel_rfl) (by kernel_rfl) (fun _ _ _ h => h) (Or.inl ⟨by rfl, ?_⟩) (by assumption) ?_
          rotate_left
          · intro w hSw
            try dsimp only at hSw
            go_simp
            try with_reducible rfl
          simp only [Act.put, List.setIfInBounds_toArray, List.set_cons_zero, List.set_cons_succ]
          refine wpAnyH_take (i := 8) (oi := ⟨some 104, _, _, _, _, _⟩) (v := ?_) rfl (by kernel_rfl) (by kernel_rfl) (by kernel_rfl) (fun _ _ _ h => h) (Or.inl ⟨by rfl, ?_⟩) (by assumption) ?_
          rotate_left
          · intro w hSw
            try dsimp only at hSw
            go_simp
            try with_reducible rfl
          simp only [Act.put, List.setIfInBounds_toArray, List.set_cons_zero, List.set_cons_succ]
          refine wpAnyH_take (i := 9) (oi := ⟨some 105, _, _, _, _, _⟩) (v := ?_) rfl (by kernel_rfl) (by kernel_rfl) (by kernel_rfl) (fun _ _ _ h => h) (Or.inl ⟨by rfl, ?_⟩) (by assumption) ?_
          rotate_left
          · intro w hSw
            try dsimp only at hSw
            go_simp
            try with_reducible rfl
          simp only [Act.put, List.setIfInBounds_toArray, List.set_cons_zero, List.set_cons_succ]
          refine wpAnyH_take (i := 10) (oi := ⟨some 106, _, _, _, _, _⟩) (v := ?_) rfl (by kernel_rfl) (by kernel_rfl) (by kernel_rfl) (fun _ _ _ h => h) (Or.inl ⟨by rfl, ?_⟩) (by assumption) ?_
          rotate_left
          · intro w hSw
            try dsimp only at hSw
            go_simp
            try with_reducible rfl
          simp only [Act.put, List.setIfInBounds_toArray, List.set_cons_zero, List.set_cons_succ]
          refine wpAnyH_take (i := 11) (oi := ⟨some 107, _, _, _, _, _⟩) (v := ?_) rfl (by kernel_rfl) (by kernel_rfl) (by kernel_rfl) (fun _ _ _ h => h) (Or.inl ⟨by rfl, ?_⟩) (by assumption) ?_
          rotate_left
          · intro w hSw
            try dsimp only at hSw
            go_simp
            try with_reducible rfl
          simp only [Act.put, List.setIfInBounds_toArray, List.set_cons_zero, List.set_cons_succ]
          refine wpAnyH_take (i := 12) (oi := ⟨some 108, _, _, _, _, _⟩) (v := undef) rfl (by kernel_rfl) (by kernel_rfl) (by kernel_rfl) (fun _ _ _ h => h) (Or.inr ⟨by rfl, rfl⟩) (by assumption) ?_
          simp only [Act.put, List.setIfInBounds_toArray, List.set_cons_zero, List.set_cons_succ]
          refine wpAnyH_take (i := 13) (oi := ⟨some 109, _, _, _, _, _⟩) (v := undef) rfl (by kernel_rfl) (by kernel_rfl) (by kernel_rfl) (fun _ _ _ h => h) (Or.inr ⟨by rfl, rfl⟩) (by assumption) ?_
          simp only [Act.put, List.setIfInBounds_toArray, List.set_cons_zero, List.set_cons_succ]
          refine wpAnyH_take (i := 14) (oi := ⟨some 110, _, _, _, _, _⟩) (v := undef) rfl (by kernel_rfl) (by kernel_rfl) (by kernel_rfl) (fun _ _ _ h => h) (Or.inr ⟨by rfl, rfl⟩) (by assumption) ?_
          simp only [Act.put, List.setIfInBounds_toArray, List.set_cons_zero, List.set_cons_succ]
          refine wpAnyH_take (i := 15) (oi := ⟨some 111, _, _, _, _, _⟩) (v := ?_) rfl (by kernel_rfl) (by kernel_rfl) (by kernel_rfl) (fun _ _ _ h => h) (Or.inl ⟨by rfl, ?_⟩) (by assumption) ?_
          rotate_left
          · intro w hSw
            try dsimp only at hSw
            go_simp
            try with_reducible rfl
          simp only [Act.put, List.setIfInBounds_toArray, List.set_cons_zero, List.set_cons_succ]
          refine wpAnyH_take (i := 16) (oi := ⟨some 112, _, _, _, _, _⟩) (v := ?_) rfl (by kernel_rfl) (by kernel_rfl) (by kernel_rfl) (fun _ _ _ h => h) (Or.inl ⟨by rfl, ?_⟩) (by assumption) ?_
          rotate_left
          · intro w hSw
            try dsimp only at hSw
            go_simp
            try with_reducible rfl
          simp only [Act.put, List.setIfInBounds_toArray, List.set_cons_zero, List.set_cons_succ]
          refine wpAnyH_take (i := 17) (oi := ⟨some 2, _, _, _, _, _⟩) (v := ?_) rfl (by kernel_rfl) (by kernel_rfl) (by kernel_rfl) (fun _ _ _ h => h) (Or.inl ⟨by rfl, ?_⟩) (by assumption) ?_
          rotate_left
          · intro w hSw
            try dsimp only at hSw
            go_simp
            try with_reducible rfl
          simp only [Act.put, List.setIfInBounds_toArray, List.set_cons_zero, List.set_cons_succ]
          have HE := hidP (hHeld.2.2.2.2.2.2.2.2.2.2.2.2.2)
          refine wpAnyH_done (by kernel_rfl) ?_ _
          clear hHeld
          go_wp2_with fail
          go_ret
          exact ⟨by rw [← HS.out, ← hkb, hzz]; rfl, HW2.out.trans (HE.out.mono HW2.out.size)⟩
      · have hkb : z4 = KB := by have := HKB.out; simpa using this
        cases hzz : z4
        · rw [hzz] at HZ4
          go_wp2_with fail
          have sB := alloc_below wr (.cells #[.string ⟨#[]⟩, .string ⟨#[105]⟩, .string ⟨#[111]⟩, .string ⟨#[105, 101]⟩, .string ⟨#[111, 110]⟩, .string ⟨#[105, 100]⟩] 9)
          have sX : ∀ (j : Nat) (v : Value), (#[.string ⟨#[]⟩, .string ⟨#[105]⟩, .string ⟨#[111]⟩, .string ⟨#[105, 101]⟩, .string ⟨#[111, 110]⟩, .string ⟨#[105, 100]⟩] : Array Value)[j]? = some v → (wr.alloc (.cells #[.string ⟨#[]⟩, .string ⟨#[105]⟩, .string ⟨#[111]⟩, .string ⟨#[105, 101]⟩, .string ⟨#[111, 110]⟩, .string ⟨#[105, 100]⟩] 9)).cell? ⟨wr.heap.size, j, none⟩ = some v := fun j v hv => by simp only [go_sem]; simp [hv]
          have s4 := sX 4 _ rfl
          have g0 := (sB.cell hwr).trans d0
          have g1 := (sB.cell hwr).trans d1
          have g2 := (sB.cell hwr).trans d2
          have g3 := (sB.cell hwr).trans d3
          have g4 := (sB.cell hwr).trans d4
          have g5 := (sB.cell hwr).trans d5
          have g6 := (sB.cell hwr).trans d6
          have g7 := (sB.cell hwr).trans d7
          have g8 := (sB.cell hwr).trans d8
          have g9 := (sB.cell hwr).trans d9
          have g10 := (sB.cell hwr).trans d10
          have g11 := (sB.cell hwr).trans d11
          have hwr2 : w.heap.size < (wr.alloc (.cells #[.string ⟨#[]⟩, .string ⟨#[105]⟩, .string ⟨#[111]⟩, .string ⟨#[105, 101]⟩, .string ⟨#[111, 110]⟩, .string ⟨#[105, 100]⟩] 9)).heap.size := by simp; omega
          have hwr3 : wr.heap.size < (wr.alloc (.cells #[.string ⟨#[]⟩, .string ⟨#[105]⟩, .string ⟨#[111]⟩, .string ⟨#[105, 101]⟩, .string ⟨#[111, 110]⟩, .string ⟨#[105, 100]⟩] 9)).heap.size := by simp
          have HW2 := hidP (HWr.out.trans (sB.mono HWr.out.size))
          clear sX sB d0 d1 d2 d3 d4 d5 d6 d7 d8 d9 d10 d11
          generalize wr.alloc (.cells #[.string ⟨#[]⟩, .string ⟨#[105]⟩, .string ⟨#[111]⟩, .string ⟨#[105, 101]⟩, .string ⟨#[111, 110]⟩, .string ⟨#[105, 100]⟩] 9) = W2 at *
          have HSx : Hid (∀ x, Below W2.heap.size W2 x → (x.cell? ⟨w.heap.size, 0, none⟩ = some (.int .i64 4) ∧ x.cell? ⟨w.heap.size, 1, none⟩ = some (.int .i64 F) ∧ x.cell? ⟨w.heap.size, 2, none⟩ = some (.int .i64 T) ∧ x.cell? ⟨w.heap.size, 3, none⟩ = some (.int .i64 M) ∧ x.cell? ⟨w.heap.size, 4, none⟩ = some (.int .i64 I) ∧ x.cell? ⟨w.heap.size, 5, none⟩ = some (.int .i64 L) ∧ x.cell? ⟨w.heap.size, 6, none⟩ = some (.slice ea en ec) ∧ x.cell? ⟨w.heap.size, 7, none⟩ = some (.int .i64 C) ∧ x.cell? ⟨w.heap.size, 8, none⟩ = some (.bool O) ∧ x.cell? ⟨w.heap.size, 9, none⟩ = some (.slice da dn dc) ∧ x.cell? ⟨w.heap.size, 10, none⟩ = some (.slice ga gn gc) ∧ x.cell? ⟨w.heap.size, 11, none⟩ = some (.slice ha hn hc) ∧ x.cell? ⟨wr.heap.size, 4, none⟩ = some (.string ⟨#[111, 110]⟩) ∧ Below W2.heap.size W2 x)) := hidP fun x h =>
            ⟨(h.cell hwr2).trans g0, (h.cell hwr2).trans g1, (h.cell hwr2).trans g2, (h.cell hwr2).trans g3, (h.cell hwr2).trans g4, (h.cell hwr2).trans g5, (h.cell hwr2).trans g6, (h.cell hwr2).trans g7, (h.cell hwr2).trans g8, (h.cell hwr2).trans g9, (h.cell hwr2).trans g10, (h.cell hwr2).trans g11, (h.cell hwr3).trans s4, h⟩
          refine wp_region_held_drew (S := (fun x => x.cell? ⟨w.heap.size, 0, none⟩ = some (.int .i64 4) ∧ x.cell? ⟨w.heap.size, 1, none⟩ = some (.int .i64 F) ∧ x.cell? ⟨w.heap.size, 2, none⟩ = some (.int .i64 T) ∧ x.cell? ⟨w.heap.size, 3, none⟩ = some (.int .i64 M) ∧ x.cell? ⟨w.heap.size, 4, none⟩ = some (.int .i64 I) ∧ x.cell? ⟨w.heap.size, 5, none⟩ = some (.int .i64 L) ∧ x.cell? ⟨w.heap.size, 6, none⟩ = some (.slice ea en ec) ∧ x.cell? ⟨w.heap.size, 7, none⟩ = some (.int .i64 C) ∧ x.cell? ⟨w.heap.size, 8, none⟩ = some (.bool O) ∧ x.cell? ⟨w.heap.size, 9, none⟩ = some (.slice da dn dc) ∧ x.cell? ⟨w.heap.size, 10, none⟩ = some (.slice ga gn gc) ∧ x.cell? ⟨w.heap.size, 11, none⟩ = some (.slice ha hn hc) ∧ x.cell? ⟨wr.heap.size, 4, none⟩ = some (.string ⟨#[111, 110]⟩) ∧ Below W2.heap.size W2 x)) (by kernel_rfl) ?_ (fun hHeld => ?_)
          · try dsimp only
            exact HSx.out _ ((Below.refl _ _).drew)
          refine wpAnyH_take (i := 0) (oi := ⟨some 96, _, _, _, _, _⟩) (v := ?_) rfl (by kernel_rfl) (by kernel_rfl) (by kernel_rfl) (fun _ _ _ h => h) (Or.inl ⟨by rfl, ?_⟩) (by assumption) ?_
          rotate_left
          · intro w hSw
            try dsimp only at hSw
            go_simp
            try with_reducible rfl
          simp only [Act.put, List.setIfInBounds_toArray, List.set_cons_zero, List.set_cons_succ]
          refine wpAnyH_take (i := 1) (oi := ⟨some 97, _, _, _, _, _⟩) (v := ?_) rfl (by kernel_rfl) (by kernel_rfl) (by kernel_rfl) (fun _ _ _ h => h) (Or.inl ⟨by rfl, ?_⟩) (by assumption) ?_
          rotate_left
          · intro w hSw
            try dsimp only at hSw
            go_simp
            try with_reducible rfl
          simp only [Act.put, List.setIfInBounds_toArray, List.set_cons_zero, List.set_cons_succ]
          refine wpAnyH_take (i := 2) (oi := ⟨some 98, _, _, _, _, _⟩) (v := ?_) rfl (by kernel_rfl) (by kernel_rfl) (by kernel_rfl) (fun _ _ _ h => h) (Or.inl ⟨by rfl, ?_⟩) (by assumption) ?_
          rotate_left
          · intro w hSw
            try dsimp only at hSw
            go_simp
            try with_reducible rfl
          simp only [Act.put, List.setIfInBounds_toArray, List.set_cons_zero, List.set_cons_succ]
          refine wpAnyH_take (i := 3) (oi := ⟨some 99, _, _, _, _, _⟩) (v := ?_) rfl (by kernel_rfl) (by kernel_rfl) (by kernel_rfl) (fun _ _ _ h => h) (Or.inl ⟨by rfl, ?_⟩) (by assumption) ?_
          rotate_left
          · intro w hSw
            try dsimp only at hSw
            go_simp
            try with_reducible rfl
          simp only [Act.put, List.setIfInBounds_toArray, List.set_cons_zero, List.set_cons_succ]
          refine wpAnyH_take (i := 4) (oi := ⟨some 100, _, _, _, _, _⟩) (v := ?_) rfl (by kernel_rfl) (by kernel_rfl) (by kernel_rfl) (fun _ _ _ h => h) (Or.inl ⟨by rfl, ?_⟩) (by assumption) ?_
          rotate_left
          · intro w hSw
            try dsimp only at hSw
            go_simp
            try with_reducible rfl
          simp only [Act.put, List.setIfInBounds_toArray, List.set_cons_zero, List.set_cons_succ]
          refine wpAnyH_take (i := 5) (oi := ⟨some 101, _, _, _, _, _⟩) (v := ?_) rfl (by kernel_rfl) (by kernel_rfl) (by kernel_rfl) (fun _ _ _ h => h) (Or.inl ⟨by rfl, ?_⟩) (by assumption) ?_
          rotate_left
          · intro w hSw
            try dsimp only at hSw
            go_simp
            try with_reducible rfl
          simp only [Act.put, List.setIfInBounds_toArray, List.set_cons_zero, List.set_cons_succ]
          refine wpAnyH_ready (rs := [6]) (by kernel_rfl) (by simp) ?_
          refine AllReadyH.cons rfl (fun K hK => ?_) AllReadyH.nil
          go_simp
          go_wp2_with (first | (go_at_call 14; refine (HZ4.out _).mono ?_; rintro e w2 ⟨rfl, hb2⟩; have b2 := (hHeld.2.2.2.2.2.2.2.2.2.2.2.2.2).trans (hb2.mono (hHeld.2.2.2.2.2.2.2.2.2.2.2.2.2).size)))
          refine hK.out _ _ ?_ (fun hHeld => ?_)
          · try dsimp only
            exact HSx.out _ b2
          clear hK K
          refine wpAnyH_take (i := 7) (oi := ⟨some 103, _, _, _, _, _⟩) (v := ?_) rfl (by kernel_rfl) (by kernel_rfl) (by kernel_rfl) (fun _ _ _ h => h) (Or.inl ⟨by rfl, ?_⟩) (by assumption) ?_
          rotate_left
          · intro w hSw
            try dsimp only at hSw
            go_simp
            try with_reducible rfl
          simp only [Act.put, List.setIfInBounds_toArray, List.set_cons_zero, List.set_cons_succ]
          refine wpAnyH_take (i := 8) (oi := ⟨some 104, _, _, _, _, _⟩) (v := undef) rfl (by kernel_rfl) (by kernel_rfl) (by kernel_rfl) (fun _ _ _ h => h) (Or.inr ⟨by rfl, rfl⟩) (by assumption) ?_
          simp only [Act.put, List.setIfInBounds_toArray, List.set_cons_zero, List.set_cons_succ]
          refine wpAnyH_take (i := 9) (oi := ⟨some 105, _, _, _, _, _⟩) (v := undef) rfl (by kernel_rfl) (by kernel_rfl) (by kernel_rfl) (fun _ _ _ h => h) (Or.inr ⟨by rfl, rfl⟩) (by assumption) ?_
          simp only [Act.put, List.setIfInBounds_toArray, List.set_cons_zero, List.set_cons_succ]
          refine wpAnyH_take (i := 10) (oi := ⟨some 106, _, _, _, _, _⟩) (v := undef) rfl (by kernel_rfl) (by kernel_rfl) (by kernel_rfl) (fun _ _ _ h => h) (Or.inr ⟨by rfl, rfl⟩) (by assumption) ?_
          simp only [Act.put, List.setIfInBounds_toArray, List.set_cons_zero, List.set_cons_succ]
          refine wpAnyH_take (i := 11) (oi := ⟨some 107, _, _, _, _, _⟩) (v := undef) rfl (by kernel_rfl) (by kernel_rfl) (by kernel_rfl) (fun _ _ _ h => h) (Or.inr ⟨by rfl, rfl⟩) (by assumption) ?_
          simp only [Act.put, List.setIfInBounds_toArray, List.set_cons_zero, List.set_cons_succ]
          refine wpAnyH_take (i := 12) (oi := ⟨some 108, _, _, _, _, _⟩) (v := undef) rfl (by kernel_rfl) (by kernel_rfl) (by kernel_rfl) (fun _ _ _ h => h) (Or.inr ⟨by rfl, rfl⟩) (by assumption) ?_
          simp only [Act.put, List.setIfInBounds_toArray, List.set_cons_zero, List.set_cons_succ]
          refine wpAnyH_take (i := 13) (oi := ⟨some 109, _, _, _, _, _⟩) (v := undef) rfl (by kernel_rfl) (by kernel_rfl) (by kernel_rfl) (fun _ _ _ h => h) (Or.inr ⟨by rfl, rfl⟩) (by assumption) ?_
          simp only [Act.put, List.setIfInBounds_toArray, List.set_cons_zero, List.set_cons_succ]
          refine wpAnyH_take (i := 14) (oi := ⟨some 110, _, _, _, _, _⟩) (v := undef) rfl (by kernel_rfl) (by kernel_rfl) (by kernel_rfl) (fun _ _ _ h => h) (Or.inr ⟨by rfl, rfl⟩) (by assumption) ?_
          simp only [Act.put, List.setIfInBounds_toArray, List.set_cons_zero, List.set_cons_succ]
          refine wpAnyH_take (i := 15) (oi := ⟨some 111, _, _, _, _, _⟩) (v := undef) rfl (by kernel_rfl) (by kernel_rfl) (by kernel_rfl) (fun _ _ _ h => h) (Or.inr ⟨by rfl, rfl⟩) (by assumption) ?_
          simp only [Act.put, List.setIfInBounds_toArray, List.set_cons_zero, List.set_cons_succ]
          refine wpAnyH_take (i := 16) (oi := ⟨some 112, _, _, _, _, _⟩) (v := ?_) rfl (by kernel_rfl) (by kernel_rfl) (by kernel_rfl) (fun _ _ _ h => h) (Or.inl ⟨by rfl, ?_⟩) (by assumption) ?_
          rotate_left
          · intro w hSw
            try dsimp only at hSw
            go_simp
            try with_reducible rfl
          simp only [Act.put, List.setIfInBounds_toArray, List.set_cons_zero, List.set_cons_succ]
          refine wpAnyH_take (i := 17) (oi := ⟨some 2, _, _, _, _, _⟩) (v := ?_) rfl (by kernel_rfl) (by kernel_rfl) (by kernel_rfl) (fun _ _ _ h => h) (Or.inl ⟨by rfl, ?_⟩) (by assumption) ?_
          rotate_left
          · intro w hSw
            try dsimp only at hSw
            go_simp
            try with_reducible rfl
          simp only [Act.put, List.setIfInBounds_toArray, List.set_cons_zero, List.set_cons_succ]
          have HE := hidP (hHeld.2.2.2.2.2.2.2.2.2.2.2.2.2)
          refine wpAnyH_done (by kernel_rfl) ?_ _
          clear hHeld
          go_wp2_with fail
          go_ret
          exact ⟨by rw [← HS.out, ← hkb, hzz]; rfl, HW2.out.trans (HE.out.mono HW2.out.size)⟩
        · rw [hzz] at HZ4
          go_wp2_with fail
          have sB := alloc_below wr (.cells #[.string ⟨#[]⟩, .string ⟨#[105]⟩, .string ⟨#[111]⟩, .string ⟨#[105, 101]⟩, .string ⟨#[111, 110]⟩, .string ⟨#[105, 100]⟩] 9)
          have sX : ∀ (j : Nat) (v : Value), (#[.string ⟨#[]⟩, .string ⟨#[105]⟩, .string ⟨#[111]⟩, .string ⟨#[105, 101]⟩, .string ⟨#[111, 110]⟩, .string ⟨#[105, 100]⟩] : Array Value)[j]? = some v → (wr.alloc (.cells #[.string ⟨#[]⟩, .string ⟨#[105]⟩, .string ⟨#[111]⟩, .string ⟨#[105, 101]⟩, .string ⟨#[111, 110]⟩, .string ⟨#[105, 100]⟩] 9)).cell? ⟨wr.heap.size, j, none⟩ = some v := fun j v hv => by simp only [go_sem]; simp [hv]
          have s4 := sX 4 _ rfl
          have g0 := (sB.cell hwr).trans d0
          have g1 := (sB.cell hwr).trans d1
          have g2 := (sB.cell hwr).trans d2
          have g3 := (sB.cell hwr).trans d3
          have g4 := (sB.cell hwr).trans d4
          have g5 := (sB.cell hwr).trans d5
          have g6 := (sB.cell hwr).trans d6
          have g7 := (sB.cell hwr).trans d7
          have g8 := (sB.cell hwr).trans d8
          have g9 := (sB.cell hwr).trans d9
          have g10 := (sB.cell hwr).trans d10
          have g11 := (sB.cell hwr).trans d11
          have hwr2 : w.heap.size < (wr.alloc (.cells #[.string ⟨#[]⟩, .string ⟨#[105]⟩, .string ⟨#[111]⟩, .string ⟨#[105, 101]⟩, .string ⟨#[111, 110]⟩, .string ⟨#[105, 100]⟩] 9)).heap.size := by simp; omega
          have hwr3 : wr.heap.size < (wr.alloc (.cells #[.string ⟨#[]⟩, .string ⟨#[105]⟩, .string ⟨#[111]⟩, .string ⟨#[105, 101]⟩, .string ⟨#[111, 110]⟩, .string ⟨#[105, 100]⟩] 9)).heap.size := by simp
          have HW2 := hidP (HWr.out.trans (sB.mono HWr.out.size))
          clear sX sB d0 d1 d2 d3 d4 d5 d6 d7 d8 d9 d10 d11
          generalize wr.alloc (.cells #[.string ⟨#[]⟩, .string ⟨#[105]⟩, .string ⟨#[111]⟩, .string ⟨#[105, 101]⟩, .string ⟨#[111, 110]⟩, .string ⟨#[105, 100]⟩] 9) = W2 at *
          have HSx : Hid (∀ x, Below W2.heap.size W2 x → (x.cell? ⟨w.heap.size, 0, none⟩ = some (.int .i64 4) ∧ x.cell? ⟨w.heap.size, 1, none⟩ = some (.int .i64 F) ∧ x.cell? ⟨w.heap.size, 2, none⟩ = some (.int .i64 T) ∧ x.cell? ⟨w.heap.size, 3, none⟩ = some (.int .i64 M) ∧ x.cell? ⟨w.heap.size, 4, none⟩ = some (.int .i64 I) ∧ x.cell? ⟨w.heap.size, 5, none⟩ = some (.int .i64 L) ∧ x.cell? ⟨w.heap.size, 6, none⟩ = some (.slice ea en ec) ∧ x.cell? ⟨w.heap.size, 7, none⟩ = some (.int .i64 C) ∧ x.cell? ⟨w.heap.size, 8, none⟩ = some (.bool O) ∧ x.cell? ⟨w.heap.size, 9, none⟩ = some (.slice da dn dc) ∧ x.cell? ⟨w.heap.size, 10, none⟩ = some (.slice ga gn gc) ∧ x.cell? ⟨w.heap.size, 11, none⟩ = some (.slice ha hn hc) ∧ x.cell? ⟨wr.heap.size, 4, none⟩ = some (.string ⟨#[111, 110]⟩) ∧ Below W2.heap.size W2 x)) := hidP fun x h =>
            ⟨(h.cell hwr2).trans g0, (h.cell hwr2).trans g1, (h.cell hwr2).trans g2, (h.cell hwr2).trans g3, (h.cell hwr2).trans g4, (h.cell hwr2).trans g5, (h.cell hwr2).trans g6, (h.cell hwr2).trans g7, (h.cell hwr2).trans g8, (h.cell hwr2).trans g9, (h.cell hwr2).trans g10, (h.cell hwr2).trans g11, (h.cell hwr3).trans s4, h⟩
          refine wp_region_held_drew (S := (fun x => x.cell? ⟨w.heap.size, 0, none⟩ = some (.int .i64 4) ∧ x.cell? ⟨w.heap.size, 1, none⟩ = some (.int .i64 F) ∧ x.cell? ⟨w.heap.size, 2, none⟩ = some (.int .i64 T) ∧ x.cell? ⟨w.heap.size, 3, none⟩ = some (.int .i64 M) ∧ x.cell? ⟨w.heap.size, 4, none⟩ = some (.int .i64 I) ∧ x.cell? ⟨w.heap.size, 5, none⟩ = some (.int .i64 L) ∧ x.cell? ⟨w.heap.size, 6, none⟩ = some (.slice ea en ec) ∧ x.cell? ⟨w.heap.size, 7, none⟩ = some (.int .i64 C) ∧ x.cell? ⟨w.heap.size, 8, none⟩ = some (.bool O) ∧ x.cell? ⟨w.heap.size, 9, none⟩ = some (.slice da dn dc) ∧ x.cell? ⟨w.heap.size, 10, none⟩ = some (.slice ga gn gc) ∧ x.cell? ⟨w.heap.size, 11, none⟩ = some (.slice ha hn hc) ∧ x.cell? ⟨wr.heap.size, 4, none⟩ = some (.string ⟨#[111, 110]⟩) ∧ Below W2.heap.size W2 x)) (by kernel_rfl) ?_ (fun hHeld => ?_)
          · try dsimp only
            exact HSx.out _ ((Below.refl _ _).drew)
          refine wpAnyH_take (i := 0) (oi := ⟨some 96, _, _, _, _, _⟩) (v := ?_) rfl (by kernel_rfl) (by kernel_rfl) (by kernel_rfl) (fun _ _ _ h => h) (Or.inl ⟨by rfl, ?_⟩) (by assumption) ?_
          rotate_left
          · intro w hSw
            try dsimp only at hSw
            go_simp
            try with_reducible rfl
          simp only [Act.put, List.setIfInBounds_toArray, List.set_cons_zero, List.set_cons_succ]
          refine wpAnyH_take (i := 1) (oi := ⟨some 97, _, _, _, _, _⟩) (v := ?_) rfl (by kernel_rfl) (by kernel_rfl) (by kernel_rfl) (fun _ _ _ h => h) (Or.inl ⟨by rfl, ?_⟩) (by assumption) ?_
          rotate_left
          · intro w hSw
            try dsimp only at hSw
            go_simp
            try with_reducible rfl
          simp only [Act.put, List.setIfInBounds_toArray, List.set_cons_zero, List.set_cons_succ]
          refine wpAnyH_take (i := 2) (oi := ⟨some 98, _, _, _, _, _⟩) (v := ?_) rfl (by kernel_rfl) (by kernel_rfl) (by kernel_rfl) (fun _ _ _ h => h) (Or.inl ⟨by rfl, ?_⟩) (by assumption) ?_
          rotate_left
          · intro w hSw
            try dsimp only at hSw
            go_simp
            try with_reducible rfl
          simp only [Act.put, List.setIfInBounds_toArray, List.set_cons_zero, List.set_cons_succ]
          refine wpAnyH_take (i := 3) (oi := ⟨some 99, _, _, _, _, _⟩) (v := ?_) rfl (by kernel_rfl) (by kernel_rfl) (by kernel_rfl) (fun _ _ _ h => h) (Or.inl ⟨by rfl, ?_⟩) (by assumption) ?_
          rotate_left
          · intro w hSw
            try dsimp only at hSw
            go_simp
            try with_reducible rfl
          simp only [Act.put, List.setIfInBounds_toArray, List.set_cons_zero, List.set_cons_succ]
          refine wpAnyH_take (i := 4) (oi := ⟨some 100, _, _, _, _, _⟩) (v := ?_) rfl (by kernel_rfl) (by kernel_rfl) (by kernel_rfl) (fun _ _ _ h => h) (Or.inl ⟨by rfl, ?_⟩) (by assumption) ?_
          rotate_left
          · intro w hSw
            try dsimp only at hSw
            go_simp
            try with_reducible rfl
          simp only [Act.put, List.setIfInBounds_toArray, List.set_cons_zero, List.set_cons_succ]
          refine wpAnyH_take (i := 5) (oi := ⟨some 101, _, _, _, _, _⟩) (v := ?_) rfl (by kernel_rfl) (by kernel_rfl) (by kernel_rfl) (fun _ _ _ h => h) (Or.inl ⟨by rfl, ?_⟩) (by assumption) ?_
          rotate_left
          · intro w hSw
            try dsimp only at hSw
            go_simp
            try with_reducible rfl
          simp only [Act.put, List.setIfInBounds_toArray, List.set_cons_zero, List.set_cons_succ]
          refine wpAnyH_ready (rs := [6]) (by kernel_rfl) (by simp) ?_
          refine AllReadyH.cons rfl (fun K hK => ?_) AllReadyH.nil
          go_simp
          go_wp2_with (first | (go_at_call 14; refine (HZ4.out _).mono ?_; rintro e w2 ⟨rfl, hb2⟩; have b2 := (hHeld.2.2.2.2.2.2.2.2.2.2.2.2.2).trans (hb2.mono (hHeld.2.2.2.2.2.2.2.2.2.2.2.2.2).size)))
          refine hK.out _ _ ?_ (fun hHeld => ?_)
          · try dsimp only
            exact HSx.out _ b2
          clear hK K
          refine wpAnyH_take (i := 7) (oi := ⟨some 103, _, _, _, _, _⟩) (v := ?_) rfl (by kernel_rfl) (by kernel_rfl) (by kernel_rfl) (fun _ _ _ h => h) (Or.inl ⟨by rfl, ?_⟩) (by assumption) ?_
          rotate_left
          · intro w hSw
            try dsimp only at hSw
            go_simp
            try with_reducible rfl
          simp only [Act.put, List.setIfInBounds_toArray, List.set_cons_zero, List.set_cons_succ]
          refine wpAnyH_take (i := 8) (oi := ⟨some 104, _, _, _, _, _⟩) (v := ?_) rfl (by kernel_rfl) (by kernel_rfl) (by kernel_rfl) (fun _ _ _ h => h) (Or.inl ⟨by rfl, ?_⟩) (by assumption) ?_
          rotate_left
          · intro w hSw
            try dsimp only at hSw
            go_simp
            try with_reducible rfl
          simp only [Act.put, List.setIfInBounds_toArray, List.set_cons_zero, List.set_cons_succ]
          refine wpAnyH_take (i := 9) (oi := ⟨some 105, _, _, _, _, _⟩) (v := ?_) rfl (by kernel_rfl) (by kernel_rfl) (by kernel_rfl) (fun _ _ _ h => h) (Or.inl ⟨by rfl, ?_⟩) (by assumption) ?_
          rotate_left
          · intro w hSw
            try dsimp only at hSw
            go_simp
            try with_reducible rfl
          simp only [Act.put, List.setIfInBounds_toArray, List.set_cons_zero, List.set_cons_succ]
          refine wpAnyH_take (i := 10) (oi := ⟨some 106, _, _, _, _, _⟩) (v := ?_) rfl (by kernel_rfl) (by kernel_rfl) (by kernel_rfl) (fun _ _ _ h => h) (Or.inl ⟨by rfl, ?_⟩) (by assumption) ?_
          rotate_left
          · intro w hSw
            try dsimp only at hSw
            go_simp
            try with_reducible rfl
          simp only [Act.put, List.setIfInBounds_toArray, List.set_cons_zero, List.set_cons_succ]
          refine wpAnyH_take (i := 11) (oi := ⟨some 107, _, _, _, _, _⟩) (v := ?_) rfl (by kernel_rfl) (by kernel_rfl) (by kernel_rfl) (fun _ _ _ h => h) (Or.inl ⟨by rfl, ?_⟩) (by assumption) ?_
          rotate_left
          · intro w hSw
            try dsimp only at hSw
            go_simp
            try with_reducible rfl
          simp only [Act.put, List.setIfInBounds_toArray, List.set_cons_zero, List.set_cons_succ]
          refine wpAnyH_take (i := 12) (oi := ⟨some 108, _, _, _, _, _⟩) (v := undef) rfl (by kernel_rfl) (by kernel_rfl) (by kernel_rfl) (fun _ _ _ h => h) (Or.inr ⟨by rfl, rfl⟩) (by assumption) ?_
          simp only [Act.put, List.setIfInBounds_toArray, List.set_cons_zero, List.set_cons_succ]
          refine wpAnyH_take (i := 13) (oi := ⟨some 109, _, _, _, _, _⟩) (v := undef) rfl (by kernel_rfl) (by kernel_rfl) (by kernel_rfl) (fun _ _ _ h => h) (Or.inr ⟨by rfl, rfl⟩) (by assumption) ?_
          simp only [Act.put, List.setIfInBounds_toArray, List.set_cons_zero, List.set_cons_succ]
          refine wpAnyH_take (i := 14) (oi := ⟨some 110, _, _, _, _, _⟩) (v := undef) rfl (by kernel_rfl) (by kernel_rfl) (by kernel_rfl) (fun _ _ _ h => h) (Or.inr ⟨by rfl, rfl⟩) (by assumption) ?_
          simp only [Act.put, List.setIfInBounds_toArray, List.set_cons_zero, List.set_cons_succ]
          refine wpAnyH_take (i := 15) (oi := ⟨some 111, _, _, _, _, _⟩) (v := ?_) rfl (by kernel_rfl) (by kernel_rfl) (by kernel_rfl) (fun _ _ _ h => h) (Or.inl ⟨by rfl, ?_⟩) (by assumption) ?_
          rotate_left
          · intro w hSw
            try dsimp only at hSw
            go_simp
            try with_reducible rfl
          simp only [Act.put, List.setIfInBounds_toArray, List.set_cons_zero, List.set_cons_succ]
          refine wpAnyH_take (i := 16) (oi := ⟨some 112, _, _, _, _, _⟩) (v := ?_) rfl (by kernel_rfl) (by kernel_rfl) (by kernel_rfl) (fun _ _ _ h => h) (Or.inl ⟨by rfl, ?_⟩) (by assumption) ?_
          rotate_left
          · intro w hSw
            try dsimp only at hSw
            go_simp
            try with_reducible rfl
          simp only [Act.put, List.setIfInBounds_toArray, List.set_cons_zero, List.set_cons_succ]
          refine wpAnyH_take (i := 17) (oi := ⟨some 2, _, _, _, _, _⟩) (v := ?_) rfl (by kernel_rfl) (by kernel_rfl) (by kernel_rfl) (fun _ _ _ h => h) (Or.inl ⟨by rfl, ?_⟩) (by assumption) ?_
          rotate_left
          · intro w hSw
            try dsimp only at hSw
            go_simp
            try with_reducible rfl
          simp only [Act.put, List.setIfInBounds_toArray, List.set_cons_zero, List.set_cons_succ]
          have HE := hidP (hHeld.2.2.2.2.2.2.2.2.2.2.2.2.2)
          refine wpAnyH_done (by kernel_rfl) ?_ _
          clear hHeld
          go_wp2_with fail
          go_ret
          exact ⟨by rw [← HS.out, ← hkb, hzz]; rfl, HW2.out.trans (HE.out.mono HW2.out.size)⟩
      · have hkb : (z5 && grB ps bs) = KB := by have := HKB.out; rw [if_neg (by decide), if_neg (by decide), if_neg (by decide), if_neg (by decide)] at this; exact this
        cases hzz : z5
        · rw [hzz] at HZ5
          go_wp2_with fail
          have sB := alloc_below wr (.cells #[.string ⟨#[]⟩, .string ⟨#[105]⟩, .string ⟨#[111]⟩, .string ⟨#[105, 101]⟩, .string ⟨#[111, 110]⟩, .string ⟨#[105, 100]⟩] 9)
          have sX : ∀ (j : Nat) (v : Value), (#[.string ⟨#[]⟩, .string ⟨#[105]⟩, .string ⟨#[111]⟩, .string ⟨#[105, 101]⟩, .string ⟨#[111, 110]⟩, .string ⟨#[105, 100]⟩] : Array Value)[j]? = some v → (wr.alloc (.cells #[.string ⟨#[]⟩, .string ⟨#[105]⟩, .string ⟨#[111]⟩, .string ⟨#[105, 101]⟩, .string ⟨#[111, 110]⟩, .string ⟨#[105, 100]⟩] 9)).cell? ⟨wr.heap.size, j, none⟩ = some v := fun j v hv => by simp only [go_sem]; simp [hv]
          have s5 := sX 5 _ rfl
          have g0 := (sB.cell hwr).trans d0
          have g1 := (sB.cell hwr).trans d1
          have g2 := (sB.cell hwr).trans d2
          have g3 := (sB.cell hwr).trans d3
          have g4 := (sB.cell hwr).trans d4
          have g5 := (sB.cell hwr).trans d5
          have g6 := (sB.cell hwr).trans d6
          have g7 := (sB.cell hwr).trans d7
          have g8 := (sB.cell hwr).trans d8
          have g9 := (sB.cell hwr).trans d9
          have g10 := (sB.cell hwr).trans d10
          have g11 := (sB.cell hwr).trans d11
          have hwr2 : w.heap.size < (wr.alloc (.cells #[.string ⟨#[]⟩, .string ⟨#[105]⟩, .string ⟨#[111]⟩, .string ⟨#[105, 101]⟩, .string ⟨#[111, 110]⟩, .string ⟨#[105, 100]⟩] 9)).heap.size := by simp; omega
          have hwr3 : wr.heap.size < (wr.alloc (.cells #[.string ⟨#[]⟩, .string ⟨#[105]⟩, .string ⟨#[111]⟩, .string ⟨#[105, 101]⟩, .string ⟨#[111, 110]⟩, .string ⟨#[105, 100]⟩] 9)).heap.size := by simp
          have HW2 := hidP (HWr.out.trans (sB.mono HWr.out.size))
          clear sX sB d0 d1 d2 d3 d4 d5 d6 d7 d8 d9 d10 d11
          generalize wr.alloc (.cells #[.string ⟨#[]⟩, .string ⟨#[105]⟩, .string ⟨#[111]⟩, .string ⟨#[105, 101]⟩, .string ⟨#[111, 110]⟩, .string ⟨#[105, 100]⟩] 9) = W2 at *
          have HSx : Hid (∀ x, Below W2.heap.size W2 x → (x.cell? ⟨w.heap.size, 0, none⟩ = some (.int .i64 5) ∧ x.cell? ⟨w.heap.size, 1, none⟩ = some (.int .i64 F) ∧ x.cell? ⟨w.heap.size, 2, none⟩ = some (.int .i64 T) ∧ x.cell? ⟨w.heap.size, 3, none⟩ = some (.int .i64 M) ∧ x.cell? ⟨w.heap.size, 4, none⟩ = some (.int .i64 I) ∧ x.cell? ⟨w.heap.size, 5, none⟩ = some (.int .i64 L) ∧ x.cell? ⟨w.heap.size, 6, none⟩ = some (.slice ea en ec) ∧ x.cell? ⟨w.heap.size, 7, none⟩ = some (.int .i64 C) ∧ x.cell? ⟨w.heap.size, 8, none⟩ = some (.bool O) ∧ x.cell? ⟨w.heap.size, 9, none⟩ = some (.slice da dn dc) ∧ x.cell? ⟨w.heap.size, 10, none⟩ = some (.slice ga gn gc) ∧ x.cell? ⟨w.heap.size, 11, none⟩ = some (.slice ha hn hc) ∧ x.cell? ⟨wr.heap.size, 5, none⟩ = some (.string ⟨#[105, 100]⟩) ∧ Below W2.heap.size W2 x)) := hidP fun x h =>
            ⟨(h.cell hwr2).trans g0, (h.cell hwr2).trans g1, (h.cell hwr2).trans g2, (h.cell hwr2).trans g3, (h.cell hwr2).trans g4, (h.cell hwr2).trans g5, (h.cell hwr2).trans g6, (h.cell hwr2).trans g7, (h.cell hwr2).trans g8, (h.cell hwr2).trans g9, (h.cell hwr2).trans g10, (h.cell hwr2).trans g11, (h.cell hwr3).trans s5, h⟩
          refine wp_region_held_drew (S := (fun x => x.cell? ⟨w.heap.size, 0, none⟩ = some (.int .i64 5) ∧ x.cell? ⟨w.heap.size, 1, none⟩ = some (.int .i64 F) ∧ x.cell? ⟨w.heap.size, 2, none⟩ = some (.int .i64 T) ∧ x.cell? ⟨w.heap.size, 3, none⟩ = some (.int .i64 M) ∧ x.cell? ⟨w.heap.size, 4, none⟩ = some (.int .i64 I) ∧ x.cell? ⟨w.heap.size, 5, none⟩ = some (.int .i64 L) ∧ x.cell? ⟨w.heap.size, 6, none⟩ = some (.slice ea en ec) ∧ x.cell? ⟨w.heap.size, 7, none⟩ = some (.int .i64 C) ∧ x.cell? ⟨w.heap.size, 8, none⟩ = some (.bool O) ∧ x.cell? ⟨w.heap.size, 9, none⟩ = some (.slice da dn dc) ∧ x.cell? ⟨w.heap.size, 10, none⟩ = some (.slice ga gn gc) ∧ x.cell? ⟨w.heap.size, 11, none⟩ = some (.slice ha hn hc) ∧ x.cell? ⟨wr.heap.size, 5, none⟩ = some (.string ⟨#[105, 100]⟩) ∧ Below W2.heap.size W2 x)) (by kernel_rfl) ?_ (fun hHeld => ?_)
          · try dsimp only
            exact HSx.out _ ((Below.refl _ _).drew)
          refine wpAnyH_take (i := 0) (oi := ⟨some 96, _, _, _, _, _⟩) (v := ?_) rfl (by kernel_rfl) (by kernel_rfl) (by kernel_rfl) (fun _ _ _ h => h) (Or.inl ⟨by rfl, ?_⟩) (by assumption) ?_
          rotate_left
          · intro w hSw
            try dsimp only at hSw
            go_simp
            try with_reducible rfl
          simp only [Act.put, List.setIfInBounds_toArray, List.set_cons_zero, List.set_cons_succ]
          refine wpAnyH_take (i := 1) (oi := ⟨some 97, _, _, _, _, _⟩) (v := ?_) rfl (by kernel_rfl) (by kernel_rfl) (by kernel_rfl) (fun _ _ _ h => h) (Or.inl ⟨by rfl, ?_⟩) (by assumption) ?_
          rotate_left
          · intro w hSw
            try dsimp only at hSw
            go_simp
            try with_reducible rfl
          simp only [Act.put, List.setIfInBounds_toArray, List.set_cons_zero, List.set_cons_succ]
          refine wpAnyH_take (i := 2) (oi := ⟨some 98, _, _, _, _, _⟩) (v := ?_) rfl (by kernel_rfl) (by kernel_rfl) (by kernel_rfl) (fun _ _ _ h => h) (Or.inl ⟨by rfl, ?_⟩) (by assumption) ?_
          rotate_left
          · intro w hSw
            try dsimp only at hSw
            go_simp
            try with_reducible rfl
          simp only [Act.put, List.setIfInBounds_toArray, List.set_cons_zero, List.set_cons_succ]
          refine wpAnyH_take (i := 3) (oi := ⟨some 99, _, _, _, _, _⟩) (v := ?_) rfl (by kernel_rfl) (by kernel_rfl) (by kernel_rfl) (fun _ _ _ h => h) (Or.inl ⟨by rfl, ?_⟩) (by assumption) ?_
          rotate_left
          · intro w hSw
            try dsimp only at hSw
            go_simp
            try with_reducible rfl
          simp only [Act.put, List.setIfInBounds_toArray, List.set_cons_zero, List.set_cons_succ]
          refine wpAnyH_take (i := 4) (oi := ⟨some 100, _, _, _, _, _⟩) (v := ?_) rfl (by kernel_rfl) (by kernel_rfl) (by kernel_rfl) (fun _ _ _ h => h) (Or.inl ⟨by rfl, ?_⟩) (by assumption) ?_
          rotate_left
          · intro w hSw
            try dsimp only at hSw
            go_simp
            try with_reducible rfl
          simp only [Act.put, List.setIfInBounds_toArray, List.set_cons_zero, List.set_cons_succ]
          refine wpAnyH_take (i := 5) (oi := ⟨some 101, _, _, _, _, _⟩) (v := ?_) rfl (by kernel_rfl) (by kernel_rfl) (by kernel_rfl) (fun _ _ _ h => h) (Or.inl ⟨by rfl, ?_⟩) (by assumption) ?_
          rotate_left
          · intro w hSw
            try dsimp only at hSw
            go_simp
            try with_reducible rfl
          simp only [Act.put, List.setIfInBounds_toArray, List.set_cons_zero, List.set_cons_succ]
          refine wpAnyH_ready (rs := [6]) (by kernel_rfl) (by simp) ?_
          refine AllReadyH.cons rfl (fun K hK => ?_) AllReadyH.nil
          go_simp
          go_wp2_with (first | (go_at_call 14; refine (HZ5.out _).mono ?_; rintro e w2 ⟨rfl, hb2⟩; have b2 := (hHeld.2.2.2.2.2.2.2.2.2.2.2.2.2).trans (hb2.mono (hHeld.2.2.2.2.2.2.2.2.2.2.2.2.2).size)))
          refine hK.out _ _ ?_ (fun hHeld => ?_)
          · try dsimp only
            exact HSx.out _ b2
          clear hK K
          refine wpAnyH_take (i := 7) (oi := ⟨some 103, _, _, _, _, _⟩) (v := ?_) rfl (by kernel_rfl) (by kernel_rfl) (by kernel_rfl) (fun _ _ _ h => h) (Or.inl ⟨by rfl, ?_⟩) (by assumption) ?_
          rotate_left
          · intro w hSw
            try dsimp only at hSw
            go_simp
            try with_reducible rfl
          simp only [Act.put, List.setIfInBounds_toArray, List.set_cons_zero, List.set_cons_succ]
          refine wpAnyH_take (i := 8) (oi := ⟨some 104, _, _, _, _, _⟩) (v := undef) rfl (by kernel_rfl) (by kernel_rfl) (by kernel_rfl) (fun _ _ _ h => h) (Or.inr ⟨by rfl, rfl⟩) (by assumption) ?_
          simp only [Act.put, List.setIfInBounds_toArray, List.set_cons_zero, List.set_cons_succ]
          refine wpAnyH_take (i := 9) (oi := ⟨some 105, _, _, _, _, _⟩) (v := undef) rfl (by kernel_rfl) (by kernel_rfl) (by kernel_rfl) (fun _ _ _ h => h) (Or.inr ⟨by rfl, rfl⟩) (by assumption) ?_
          simp only [Act.put, List.setIfInBounds_toArray, List.set_cons_zero, List.set_cons_succ]
          refine wpAnyH_take (i := 10) (oi := ⟨some 106, _, _, _, _, _⟩) (v := undef) rfl (by kernel_rfl) (by kernel_rfl) (by kernel_rfl) (fun _ _ _ h => h) (Or.inr ⟨by rfl, rfl⟩) (by assumption) ?_
          simp only [Act.put, List.setIfInBounds_toArray, List.set_cons_zero, List.set_cons_succ]
          refine wpAnyH_take (i := 11) (oi := ⟨some 107, _, _, _, _, _⟩) (v := undef) rfl (by kernel_rfl) (by kernel_rfl) (by kernel_rfl) (fun _ _ _ h => h) (Or.inr ⟨by rfl, rfl⟩) (by assumption) ?_
          simp only [Act.put, List.setIfInBounds_toArray, List.set_cons_zero, List.set_cons_succ]
          refine wpAnyH_take (i := 12) (oi := ⟨some 108, _, _, _, _, _⟩) (v := undef) rfl (by kernel_rfl) (by kernel_rfl) (by kernel_rfl) (fun _ _ _ h => h) (Or.inr ⟨by rfl, rfl⟩) (by assumption) ?_
          simp only [Act.put, List.setIfInBounds_toArray, List.set_cons_zero, List.set_cons_succ]
          refine wpAnyH_take (i := 13) (oi := ⟨some 109, _, _, _, _, _⟩) (v := undef) rfl (by kernel_rfl) (by kernel_rfl) (by kernel_rfl) (fun _ _ _ h => h) (Or.inr ⟨by rfl, rfl⟩) (by assumption) ?_
          simp only [Act.put, List.setIfInBounds_toArray, List.set_cons_zero, List.set_cons_succ]
          refine wpAnyH_take (i := 14) (oi := ⟨some 110, _, _, _, _, _⟩) (v := undef) rfl (by kernel_rfl) (by kernel_rfl) (by kernel_rfl) (fun _ _ _ h => h) (Or.inr ⟨by rfl, rfl⟩) (by assumption) ?_
          simp only [Act.put, List.setIfInBounds_toArray, List.set_cons_zero, List.set_cons_succ]
          refine wpAnyH_take (i := 15) (oi := ⟨some 111, _, _, _, _, _⟩) (v := undef) rfl (by kernel_rfl) (by kernel_rfl) (by kernel_rfl) (fun _ _ _ h => h) (Or.inr ⟨by rfl, rfl⟩) (by assumption) ?_
          simp only [Act.put, List.setIfInBounds_toArray, List.set_cons_zero, List.set_cons_succ]
          refine wpAnyH_take (i := 16) (oi := ⟨some 112, _, _, _, _, _⟩) (v := ?_) rfl (by kernel_rfl) (by kernel_rfl) (by kernel_rfl) (fun _ _ _ h => h) (Or.inl ⟨by rfl, ?_⟩) (by assumption) ?_
          rotate_left
          · intro w hSw
            try dsimp only at hSw
            go_simp
            try with_reducible rfl
          simp only [Act.put, List.setIfInBounds_toArray, List.set_cons_zero, List.set_cons_succ]
          refine wpAnyH_take (i := 17) (oi := ⟨some 2, _, _, _, _, _⟩) (v := ?_) rfl (by kernel_rfl) (by kernel_rfl) (by kernel_rfl) (fun _ _ _ h => h) (Or.inl ⟨by rfl, ?_⟩) (by assumption) ?_
          rotate_left
          · intro w hSw
            try dsimp only at hSw
            go_simp
            try with_reducible rfl
          simp only [Act.put, List.setIfInBounds_toArray, List.set_cons_zero, List.set_cons_succ]
          have HE := hidP (hHeld.2.2.2.2.2.2.2.2.2.2.2.2.2)
          refine wpAnyH_done (by kernel_rfl) ?_ _
          clear hHeld
          go_wp2_with fail
          go_ret
          exact ⟨by rw [← HS.out, ← hkb, hzz]; rfl, HW2.out.trans (HE.out.mono HW2.out.size)⟩
        · rw [hzz] at HZ5
          go_wp2_with fail
          have sB := alloc_below wr (.cells #[.string ⟨#[]⟩, .string ⟨#[105]⟩, .string ⟨#[111]⟩, .string ⟨#[105, 101]⟩, .string ⟨#[111, 110]⟩, .string ⟨#[105, 100]⟩] 9)
          have sX : ∀ (j : Nat) (v : Value), (#[.string ⟨#[]⟩, .string ⟨#[105]⟩, .string ⟨#[111]⟩, .string ⟨#[105, 101]⟩, .string ⟨#[111, 110]⟩, .string ⟨#[105, 100]⟩] : Array Value)[j]? = some v → (wr.alloc (.cells #[.string ⟨#[]⟩, .string ⟨#[105]⟩, .string ⟨#[111]⟩, .string ⟨#[105, 101]⟩, .string ⟨#[111, 110]⟩, .string ⟨#[105, 100]⟩] 9)).cell? ⟨wr.heap.size, j, none⟩ = some v := fun j v hv => by simp only [go_sem]; simp [hv]
          have s5 := sX 5 _ rfl
          have g0 := (sB.cell hwr).trans d0
          have g1 := (sB.cell hwr).trans d1
          have g2 := (sB.cell hwr).trans d2
          have g3 := (sB.cell hwr).trans d3
          have g4 := (sB.cell hwr).trans d4
          have g5 := (sB.cell hwr).trans d5
          have g6 := (sB.cell hwr).trans d6
          have g7 := (sB.cell hwr).trans d7
          have g8 := (sB.cell hwr).trans d8
          have g9 := (sB.cell hwr).trans d9
          have g10 := (sB.cell hwr).trans d10
          have g11 := (sB.cell hwr).trans d11
          have hwr2 : w.heap.size < (wr.alloc (.cells #[.string ⟨#[]⟩, .string ⟨#[105]⟩, .string ⟨#[111]⟩, .string ⟨#[105, 101]⟩, .string ⟨#[111, 110]⟩, .string ⟨#[105, 100]⟩] 9)).heap.size := by simp; omega
          have hwr3 : wr.heap.size < (wr.alloc (.cells #[.string ⟨#[]⟩, .string ⟨#[105]⟩, .string ⟨#[111]⟩, .string ⟨#[105, 101]⟩, .string ⟨#[111, 110]⟩, .string ⟨#[105, 100]⟩] 9)).heap.size := by simp
          have HW2 := hidP (HWr.out.trans (sB.mono HWr.out.size))
          clear sX sB d0 d1 d2 d3 d4 d5 d6 d7 d8 d9 d10 d11
          generalize wr.alloc (.cells #[.string ⟨#[]⟩, .string ⟨#[105]⟩, .string ⟨#[111]⟩, .string ⟨#[105, 101]⟩, .string ⟨#[111, 110]⟩, .string ⟨#[105, 100]⟩] 9) = W2 at *
          have HSx : Hid (∀ x, Below W2.heap.size W2 x → (x.cell? ⟨w.heap.size, 0, none⟩ = some (.int .i64 5) ∧ x.cell? ⟨w.heap.size, 1, none⟩ = some (.int .i64 F) ∧ x.cell? ⟨w.heap.size, 2, none⟩ = some (.int .i64 T) ∧ x.cell? ⟨w.heap.size, 3, none⟩ = some (.int .i64 M) ∧ x.cell? ⟨w.heap.size, 4, none⟩ = some (.int .i64 I) ∧ x.cell? ⟨w.heap.size, 5, none⟩ = some (.int .i64 L) ∧ x.cell? ⟨w.heap.size, 6, none⟩ = some (.slice ea en ec) ∧ x.cell? ⟨w.heap.size, 7, none⟩ = some (.int .i64 C) ∧ x.cell? ⟨w.heap.size, 8, none⟩ = some (.bool O) ∧ x.cell? ⟨w.heap.size, 9, none⟩ = some (.slice da dn dc) ∧ x.cell? ⟨w.heap.size, 10, none⟩ = some (.slice ga gn gc) ∧ x.cell? ⟨w.heap.size, 11, none⟩ = some (.slice ha hn hc) ∧ x.cell? ⟨wr.heap.size, 5, none⟩ = some (.string ⟨#[105, 100]⟩) ∧ Below W2.heap.size W2 x)) := hidP fun x h =>
            ⟨(h.cell hwr2).trans g0, (h.cell hwr2).trans g1, (h.cell hwr2).trans g2, (h.cell hwr2).trans g3, (h.cell hwr2).trans g4, (h.cell hwr2).trans g5, (h.cell hwr2).trans g6, (h.cell hwr2).trans g7, (h.cell hwr2).trans g8, (h.cell hwr2).trans g9, (h.cell hwr2).trans g10, (h.cell hwr2).trans g11, (h.cell hwr3).trans s5, h⟩
          refine wp_region_held_drew (S := (fun x => x.cell? ⟨w.heap.size, 0, none⟩ = some (.int .i64 5) ∧ x.cell? ⟨w.heap.size, 1, none⟩ = some (.int .i64 F) ∧ x.cell? ⟨w.heap.size, 2, none⟩ = some (.int .i64 T) ∧ x.cell? ⟨w.heap.size, 3, none⟩ = some (.int .i64 M) ∧ x.cell? ⟨w.heap.size, 4, none⟩ = some (.int .i64 I) ∧ x.cell? ⟨w.heap.size, 5, none⟩ = some (.int .i64 L) ∧ x.cell? ⟨w.heap.size, 6, none⟩ = some (.slice ea en ec) ∧ x.cell? ⟨w.heap.size, 7, none⟩ = some (.int .i64 C) ∧ x.cell? ⟨w.heap.size, 8, none⟩ = some (.bool O) ∧ x.cell? ⟨w.heap.size, 9, none⟩ = some (.slice da dn dc) ∧ x.cell? ⟨w.heap.size, 10, none⟩ = some (.slice ga gn gc) ∧ x.cell? ⟨w.heap.size, 11, none⟩ = some (.slice ha hn hc) ∧ x.cell? ⟨wr.heap.size, 5, none⟩ = some (.string ⟨#[105, 100]⟩) ∧ Below W2.heap.size W2 x)) (by kernel_rfl) ?_ (fun hHeld => ?_)
          · try dsimp only
            exact HSx.out _ ((Below.refl _ _).drew)
          refine wpAnyH_take (i := 0) (oi := ⟨some 96, _, _, _, _, _⟩) (v := ?_) rfl (by kernel_rfl) (by kernel_rfl) (by kernel_rfl) (fun _ _ _ h => h) (Or.inl ⟨by rfl, ?_⟩) (by assumption) ?_
          rotate_left
          · intro w hSw
            try dsimp only at hSw
            go_simp
            try with_reducible rfl
          simp only [Act.put, List.setIfInBounds_toArray, List.set_cons_zero, List.set_cons_succ]
          refine wpAnyH_take (i := 1) (oi := ⟨some 97, _, _, _, _, _⟩) (v := ?_) rfl (by kernel_rfl) (by kernel_rfl) (by kernel_rfl) (fun _ _ _ h => h) (Or.inl ⟨by rfl, ?_⟩) (by assumption) ?_
          rotate_left
          · intro w hSw
            try dsimp only at hSw
            go_simp
            try with_reducible rfl
          simp only [Act.put, List.setIfInBounds_toArray, List.set_cons_zero, List.set_cons_succ]
          refine wpAnyH_take (i := 2) (oi := ⟨some 98, _, _, _, _, _⟩) (v := ?_) rfl (by kernel_rfl) (by kernel_rfl) (by kernel_rfl) (fun _ _ _ h => h) (Or.inl ⟨by rfl, ?_⟩) (by assumption) ?_
          rotate_left
          · intro w hSw
            try dsimp only at hSw
            go_simp
            try with_reducible rfl
          simp only [Act.put, List.setIfInBounds_toArray, List.set_cons_zero, List.set_cons_succ]
          refine wpAnyH_take (i := 3) (oi := ⟨some 99, _, _, _, _, _⟩) (v := ?_) rfl (by kernel_rfl) (by kernel_rfl) (by kernel_rfl) (fun _ _ _ h => h) (Or.inl ⟨by rfl, ?_⟩) (by assumption) ?_
          rotate_left
          · intro w hSw
            try dsimp only at hSw
            go_simp
            try with_reducible rfl
          simp only [Act.put, List.setIfInBounds_toArray, List.set_cons_zero, List.set_cons_succ]
          refine wpAnyH_take (i := 4) (oi := ⟨some 100, _, _, _, _, _⟩) (v := ?_) rfl (by kernel_rfl) (by kernel_rfl) (by kernel_rfl) (fun _ _ _ h => h) (Or.inl ⟨by rfl, ?_⟩) (by assumption) ?_
          rotate_left
          · intro w hSw
            try dsimp only at hSw
            go_simp
            try with_reducible rfl
          simp only [Act.put, List.setIfInBounds_toArray, List.set_cons_zero, List.set_cons_succ]
          refine wpAnyH_take (i := 5) (oi := ⟨some 101, _, _, _, _, _⟩) (v := ?_) rfl (by kernel_rfl) (by kernel_rfl) (by kernel_rfl) (fun _ _ _ h => h) (Or.inl ⟨by rfl, ?_⟩) (by assumption) ?_
          rotate_left
          · intro w hSw
            try dsimp only at hSw
            go_simp
            try with_reducible rfl
          simp only [Act.put, List.setIfInBounds_toArray, List.set_cons_zero, List.set_cons_succ]
          refine wpAnyH_ready (rs := [6]) (by kernel_rfl) (by simp) ?_
          refine AllReadyH.cons rfl (fun K hK => ?_) AllReadyH.nil
          go_simp
          go_wp2_with (first | (go_at_call 14; refine (HZ5.out _).mono ?_; rintro e w2 ⟨rfl, hb2⟩; have b2 := (hHeld.2.2.2.2.2.2.2.2.2.2.2.2.2).trans (hb2.mono (hHeld.2.2.2.2.2.2.2.2.2.2.2.2.2).size)))
          refine hK.out _ _ ?_ (fun hHeld => ?_)
          · try dsimp only
            exact HSx.out _ b2
          clear hK K
          refine wpAnyH_take (i := 7) (oi := ⟨some 103, _, _, _, _, _⟩) (v := ?_) rfl (by kernel_rfl) (by kernel_rfl) (by kernel_rfl) (fun _ _ _ h => h) (Or.inl ⟨by rfl, ?_⟩) (by assumption) ?_
          rotate_left
          · intro w hSw
            try dsimp only at hSw
            go_simp
            try with_reducible rfl
          simp only [Act.put, List.setIfInBounds_toArray, List.set_cons_zero, List.set_cons_succ]
          refine wpAnyH_take (i := 8) (oi := ⟨some 104, _, _, _, _, _⟩) (v := ?_) rfl (by kernel_rfl) (by kernel_rfl) (by kernel_rfl) (fun _ _ _ h => h) (Or.inl ⟨by rfl, ?_⟩) (by assumption) ?_
          rotate_left
          · intro w hSw
            try dsimp only at hSw
            go_simp
            try with_reducible rfl
          simp only [Act.put, List.setIfInBounds_toArray, List.set_cons_zero, List.set_cons_succ]
          refine wpAnyH_take (i := 9) (oi := ⟨some 105, _, _, _, _, _⟩) (v := ?_) rfl (by kernel_rfl) (by kernel_rfl) (by kernel_rfl) (fun _ _ _ h => h) (Or.inl ⟨by rfl, ?_⟩) (by assumption) ?_
          rotate_left
          · intro w hSw
            try dsimp only at hSw
            go_simp
            try with_reducible rfl
          simp only [Act.put, List.setIfInBounds_toArray, List.set_cons_zero, List.set_cons_succ]
          refine wpAnyH_take (i := 10) (oi := ⟨some 106, _, _, _, _, _⟩) (v := ?_) rfl (by kernel_rfl) (by kernel_rfl) (by kernel_rfl) (fun _ _ _ h => h) (Or.inl ⟨by rfl, ?_⟩) (by assumption) ?_
          rotate_left
          · intro w hSw
            try dsimp only at hSw
            go_simp
            try with_reducible rfl
          simp only [Act.put, List.setIfInBounds_toArray, List.set_cons_zero, List.set_cons_succ]
          refine wpAnyH_take (i := 11) (oi := ⟨some 107, _, _, _, _, _⟩) (v := ?_) rfl (by kernel_rfl) (by kernel_rfl) (by kernel_rfl) (fun _ _ _ h => h) (Or.inl ⟨by rfl, ?_⟩) (by assumption) ?_
          rotate_left
          · intro w hSw
            try dsimp only at hSw
            go_simp
            try with_reducible rfl
          simp only [Act.put, List.setIfInBounds_toArray, List.set_cons_zero, List.set_cons_succ]
          refine wpAnyH_take (i := 12) (oi := ⟨some 108, _, _, _, _, _⟩) (v := ?_) rfl (by kernel_rfl) (by kernel_rfl) (by kernel_rfl) (fun _ _ _ h => h) (Or.inl ⟨by rfl, ?_⟩) (by assumption) ?_
          rotate_left
          · intro w hSw
            try dsimp only at hSw
            go_simp
            try with_reducible rfl
          simp only [Act.put, List.setIfInBounds_toArray, List.set_cons_zero, List.set_cons_succ]
          refine wpAnyH_take (i := 13) (oi := ⟨some 109, _, _, _, _, _⟩) (v := ?_) rfl (by kernel_rfl) (by kernel_rfl) (by kernel_rfl) (fun _ _ _ h => h) (Or.inl ⟨by rfl, ?_⟩) (by assumption) ?_
          rotate_left
          · intro w hSw
            try dsimp only at hSw
            go_simp
            try with_reducible rfl
          simp only [Act.put, List.setIfInBounds_toArray, List.set_cons_zero, List.set_cons_succ]
          refine wpAnyH_ready (rs := [14]) (by kernel_rfl) (by simp) ?_
          refine AllReadyH.cons rfl (fun K hK => ?_) AllReadyH.nil
          go_simp
          go_wp2_with (first | (go_at_call 15; refine (HG.out _ (HW2.out.trans ((hHeld.2.2.2.2.2.2.2.2.2.2.2.2.2).mono HW2.out.size))).mono ?_; rintro e w3 ⟨rfl, hb3⟩; have b3 := (hHeld.2.2.2.2.2.2.2.2.2.2.2.2.2).trans (hb3.mono (hHeld.2.2.2.2.2.2.2.2.2.2.2.2.2).size)))
          refine hK.out _ _ ?_ (fun hHeld => ?_)
          · try dsimp only
            exact HSx.out _ b3
          clear hK K
          refine wpAnyH_take (i := 15) (oi := ⟨some 111, _, _, _, _, _⟩) (v := ?_) rfl (by kernel_rfl) (by kernel_rfl) (by kernel_rfl) (fun _ _ _ h => h) (Or.inl ⟨by rfl, ?_⟩) (by assumption) ?_
          rotate_left
          · intro w hSw
            try dsimp only at hSw
            go_simp
            try with_reducible rfl
          simp only [Act.put, List.setIfInBounds_toArray, List.set_cons_zero, List.set_cons_succ]
          refine wpAnyH_take (i := 16) (oi := ⟨some 112, _, _, _, _, _⟩) (v := ?_) rfl (by kernel_rfl) (by kernel_rfl) (by kernel_rfl) (fun _ _ _ h => h) (Or.inl ⟨by rfl, ?_⟩) (by assumption) ?_
          rotate_left
          · intro w hSw
            try dsimp only at hSw
            go_simp
            try with_reducible rfl
          simp only [Act.put, List.setIfInBounds_toArray, List.set_cons_zero, List.set_cons_succ]
          refine wpAnyH_take (i := 17) (oi := ⟨some 2, _, _, _, _, _⟩) (v := ?_) rfl (by kernel_rfl) (by kernel_rfl) (by kernel_rfl) (fun _ _ _ h => h) (Or.inl ⟨by rfl, ?_⟩) (by assumption) ?_
          rotate_left
          · intro w hSw
            try dsimp only at hSw
            go_simp
            try with_reducible rfl
          simp only [Act.put, List.setIfInBounds_toArray, List.set_cons_zero, List.set_cons_succ]
          have HE := hidP (hHeld.2.2.2.2.2.2.2.2.2.2.2.2.2)
          refine wpAnyH_done (by kernel_rfl) ?_ _
          clear hHeld
          go_wp2_with fail
          go_ret
          exact ⟨by rw [← HS.out, ← hkb, hzz]; rfl, HW2.out.trans (HE.out.mono HW2.out.size)⟩

end Go.Proofs.YtgenjjhchnnpnaaDoor
