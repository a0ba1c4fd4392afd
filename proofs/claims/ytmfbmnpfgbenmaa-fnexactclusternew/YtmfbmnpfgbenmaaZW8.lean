/-
  The program's GetGroup of any bytes, wherever they lie.
-/
import Derived.Test.YtmfbmnpfgbenmaaZW7
import Derived.Deep.DeepCutAuto
import Derived.Test.YtmfbmnpfgbenmaaZW1
namespace Go.Proofs.Ytmfbmnpfgbenmaa
open Go.ChangeShapes Go.WideShapes Go.ChangeAt Go.RowKit Go.Joins Go.Deep

set_option maxRecDepth 10000 in
set_option maxHeartbeats 4000000 in
theorem iGgA_bad (g o cc bx bq : Nat) (hx : bx < 256) (hy : bq < 256) (w : World) (hB : RowG KBy w (some ⟨g, o, none⟩) [(bx : Int), (bq : Int)]) (hr : gotB bx bq = false) :
    Calls Try.prog 145 #[.slice (some ⟨g, o, none⟩) 2 cc] w fun e w' => ∃ a c b d, e = .returned (.tuple #[.agg #[.slice a 0 c, .slice b 0 d], .bool false]) ∧ OwnG KI 3 w' w.heap.size (.slice a 0 c) [] ∧ OwnG KI 3 w' w.heap.size (.slice b 0 d) [] ∧ (∀ k, (Value.slice a 0 c).ownBlock = some k → (Value.slice b 0 d).ownBlock ≠ some k) ∧ Below w.heap.size w w' := by
  have H1 := hidP (fun W => idsOfByte_any bx hx W)
  have H2 := hidP (fun W => idsOfByte_any bq hy W)
  have hl1 := ls_len ⟨bx, hx⟩
  have hl2 := ls_len ⟨bq, hy⟩
  simp only at hl1 hl2
  rw [← got_i bx bq hx hy] at hr
  have q0 : w.cell? ⟨g, o, none⟩ = some (.int .u8 (bx : Int)) := by obtain ⟨p, o', q, ha, hp, hq, c⟩ := hB 0 (by simp); simp at ha hq; obtain ⟨rfl, rfl⟩ := ha; subst hq; have := c 0 _ rfl; simpa [KBy] using this
  have q1 : w.cell? ⟨g, o + 1, none⟩ = some (.int .u8 (bq : Int)) := by obtain ⟨p, o', q, ha, hp, hq, c⟩ := hB 1 (by simp); simp at ha hq; obtain ⟨rfl, rfl⟩ := ha; subst hq; have := c 0 _ rfl; simpa [KBy] using this
  have qL : g < w.heap.size := World.block_lt_of_cell? w _ q0
  have HB := hidP (And.intro q0 (And.intro q1 qL))
  clear q0 q1 qL hB
  obtain ⟨PS, hPS⟩ : ∃ PS, PS = ofB 8 bx 1 := ⟨_, rfl⟩
  obtain ⟨BS, hBS⟩ : ∃ BS, BS = ofB 8 bq 1 := ⟨_, rfl⟩
  obtain ⟨NP, hNP⟩ : ∃ NP, NP = PS.length := ⟨_, rfl⟩
  obtain ⟨NB, hNB⟩ : ∃ NB, NB = BS.length := ⟨_, rfl⟩
  try rw [← hPS, ← hBS, ← hNP, ← hNB]
  rw [← hPS, ← hBS] at hr
  rw [← hPS, ← hNP] at H1
  rw [← hBS, ← hNB] at H2
  have n1 : NP ≤ 8 := by rw [hNP, hPS]; exact hl1.1
  have n2 : NB ≤ 8 := by rw [hNB, hBS]; exact hl2.1
  have HGr := hidP (fun W a c b d e1 e2 => iGroupOk_any a NP c b NB d PS BS W hNP hNB e1 e2 (by omega) (by omega))
  rw [hr] at HGr
  clear hr hPS hBS hNP hNB hl1 hl2
  go_enter Try.func145, Try.ntmps145
  go_upto_region 3 with fail
  obtain ⟨rs0_W1, rs1_W1⟩ := box2D w 25 (.slice none 0 0) (.slice none 0 0)
  have rsF_W1 : ∀ o, (w.alloc (.cells #[.slice none 0 0, .slice none 0 0] 25)).frozen? ⟨w.heap.size, o, none⟩ = false := fun o => by simp [go_sem]
  have rsL_W1 : w.heap.size < (w.alloc (.cells #[.slice none 0 0, .slice none 0 0] 25)).heap.size := by simp
  have ab_W1 := alloc_below w (.cells #[.slice none 0 0, .slice none 0 0] 25)
  have as_W1 : Hid ((w.alloc (.cells #[.slice none 0 0, .slice none 0 0] 25)).heap.size = w.heap.size + 1) := hidP (by simp)
  generalize w.alloc (.cells #[.slice none 0 0, .slice none 0 0] 25) = W1 at *
  have acc_W1 := hidP (ab_W1)
  have sz_W1 : Hid (w.heap.size ≤ W1.heap.size) := hidP ab_W1.size
  clear ab_W1 
  have q0 := (acc_W1.out.cell HB.out.2.2).trans HB.out.1
  have q1 := (acc_W1.out.cell HB.out.2.2).trans HB.out.2.1
  have qL : g < W1.heap.size := Nat.lt_of_lt_of_le HB.out.2.2 acc_W1.out.size
  go_cut [4] (fun t4 X => ∃ (p : Nat) (a : Option Addr) (c : Nat) (b : Option Addr) (d : Nat), t4 = .pointer (some ⟨p, 0, none⟩) ∧ W1.heap.size ≤ p ∧ p < X.heap.size ∧ X.cell? ⟨p, 0, none⟩ = some (.slice a NP c) ∧ X.cell? ⟨p, 1, none⟩ = some (.slice b NB d) ∧ OwnG KI 3 X W1.heap.size (.slice a NP c) PS ∧ OwnG KI 3 X W1.heap.size (.slice b NB d) BS ∧ (∀ k, (Value.slice a NP c).ownBlock = some k → (Value.slice b NB d).ownBlock ≠ some k) ∧ (∀ k, (Value.slice a NP c).ownBlock = some k → k ≠ p) ∧ (∀ k, (Value.slice b NB d).ownBlock = some k → k ≠ p) ∧ Below W1.heap.size W1 X)
  case first =>
    have HSx : Hid (∀ x, Below W1.heap.size W1 x → (x.cell? ⟨g, o, none⟩ = some (.int .u8 (bx : Int)) ∧ x.cell? ⟨g, o + 1, none⟩ = some (.int .u8 (bq : Int)) ∧ Below W1.heap.size W1 x)) := hidP fun x h =>
      ⟨(h.cell qL).trans q0, (h.cell qL).trans q1, h⟩
    refine wp_region_held_drew (S := (fun x => x.cell? ⟨g, o, none⟩ = some (.int .u8 (bx : Int)) ∧ x.cell? ⟨g, o + 1, none⟩ = some (.int .u8 (bq : Int)) ∧ Below W1.heap.size W1 x)) (by kernel_rfl) ?_ (fun hHeld => ?_)
    · try dsimp only
      exact HSx.out _ (Below.refl _ _).drew
    refine tk 0 9 rfl ?_
    simp only [pa]
    refine tk 1 10 rfl ?_
    simp only [pa]
    refine tk 2 11 rfl ?_
    simp only [pa]
    refine tk 4 13 rfl ?_
    simp only [pa]
    refine tk 5 14 rfl ?_
    simp only [pa]
    refine tk 6 15 rfl ?_
    simp only [pa]
    refine wpAnyH_ready (rs := [3, 9]) (by kernel_rfl) (by simp) ?_
    refine AllReadyH.cons rfl (fun K hK => ?_) (AllReadyH.cons rfl (fun K hK => ?_) AllReadyH.nil)
    · go_simp
      go_wp2_with (first | (go_at_call 157; refine (H1.out _).mono ?_; rintro e w2 ⟨ra2, rc2, rfl, og2, hb2⟩; have b2 := (hHeld.2.2).trans (hb2.mono (hHeld.2.2).size)))
      refine hK.out _ _ ?_ (fun hHeld => ?_)
      · try dsimp only
        exact HSx.out _ b2
      clear hK K
      refine wpAnyH_ready (rs := [7, 9]) (by kernel_rfl) (by simp) ?_
      refine AllReadyH.cons rfl (fun K hK => ?_) (AllReadyH.cons rfl (fun K hK => ?_) AllReadyH.nil)
      · go_simp
        go_wp2_with (first | (go_at_call 157; refine (H2.out _).mono ?_; rintro e w3 ⟨ra3, rc3, rfl, og3, hb3⟩; have b3 := (hHeld.2.2).trans (hb3.mono (hHeld.2.2).size)))
        refine hK.out _ _ ?_ (fun hHeld => ?_)
        · try dsimp only
          exact HSx.out _ b3
        clear hK K
        refine tk 8 17 rfl ?_
        simp only [pa]
        refine wpAnyH_ready (rs := [9]) (by kernel_rfl) (by simp) ?_
        refine AllReadyH.cons rfl (fun K hK => ?_) AllReadyH.nil
        go_simp
        obtain ⟨z4x0, z4x1⟩ := boxZ2 w3 25
        have z4F := frzZ2 w3 25
        have z4B := alloc_below w3 (.cells #[.slice none 0 0, .slice none 0 0] 25)
        have z4L := alloc_lt w3 (.cells #[.slice none 0 0, .slice none 0 0] 25)
        have z4M := (hHeld.2.2).trans (z4B.mono (hHeld.2.2).size)
        generalize w3.alloc (.cells #[.slice none 0 0, .slice none 0 0] 25) = w4 at *
        refine hK.out _ _ ?_ (fun hHeld => ?_)
        · try dsimp only
          exact HSx.out _ z4M
        clear hK K
        have bl4 : W1.heap.size ≤ w3.heap.size := b3.size
        refine wpAnyH_ready (rs := [10]) (by kernel_rfl) (by simp) ?_
        refine AllReadyH.cons rfl (fun K hK => ?_) AllReadyH.nil
        go_simp
        refine hK.out _ _ ?_ (fun hHeld => ?_)
        · try dsimp only
          refine HSx.out _ ?_
          repeat (with_reducible refine Below.setCell ?_ ?_ _; rotate_left; (focus (exact (bl4))))
          exact (hHeld.2.2)
        clear hK K
        have HE := hidP (hHeld.2.2)
        refine wpAnyH_done (by kernel_rfl) ?_ _
        clear hHeld
        have hdr : W1.drew.heap.size = W1.heap.size := rfl
        have s0 := hb2.size
        have s1 := hb3.size
        have s2 := z4B.size
        have lo3 := fun k hk => OwnG.lt og2 k hk
        have lo7 := fun k hk => OwnG.lt og3 k hk
        have HF := hidP (And.intro (OwnG.mono (OwnG.later (OwnG.later og2 hb3) z4B) (by first | exact b1.size | exact z1M.size | exact Nat.le_refl _)) (OwnG.mono (OwnG.later og3 z4B) (by first | exact b2.size | exact z2M.size | exact Nat.le_refl _)))
        have aL : w3.heap.size < w4.heap.size := z4L
        have d1 : ∀ k, (Value.slice ra2 NP rc2).ownBlock = some k → (Value.slice ra3 NB rc3).ownBlock ≠ some k := fun k h1 h2 => by have h3 := lo3 k h1; have h4 := lo7 k h2; omega
        have d2 : ∀ k, (Value.slice ra2 NP rc2).ownBlock = some k → k ≠ w3.heap.size := fun k h1 => by have h3 := lo3 k h1; omega
        have d3 : ∀ k, (Value.slice ra3 NB rc3).ownBlock = some k → k ≠ w3.heap.size := fun k h1 => by have h3 := lo7 k h1; omega
        have HD := hidP (And.intro d1 (And.intro d2 d3))
        clear lo3 lo7 d1 d2 d3 og2 og3 hdr aL s0 s1 s2
        go_wp2_with fail
        go_meet
        refine ⟨_, ra2, rc2, ra3, rc3, rfl, bl4, ?_, ?_, ?_, OwnG.put2 HF.out.1 HD.out.2.1, OwnG.put2 HF.out.2 HD.out.2.2, HD.out.1, HD.out.2.1, HD.out.2.2, HE.out⟩
        · simp; exact z4L
        all_goals (simp [go_sem, z4x0, z4x1])
      · go_simp
        obtain ⟨z3x0, z3x1⟩ := boxZ2 w2 25
        have z3F := frzZ2 w2 25
        have z3B := alloc_below w2 (.cells #[.slice none 0 0, .slice none 0 0] 25)
        have z3L := alloc_lt w2 (.cells #[.slice none 0 0, .slice none 0 0] 25)
        have z3M := (hHeld.2.2).trans (z3B.mono (hHeld.2.2).size)
        generalize w2.alloc (.cells #[.slice none 0 0, .slice none 0 0] 25) = w3 at *
        refine hK.out _ _ ?_ (fun hHeld => ?_)
        · try dsimp only
          exact HSx.out _ z3M
        clear hK K
        have bl3 : W1.heap.size ≤ w2.heap.size := b2.size
        refine wpAnyH_ready (rs := [7]) (by kernel_rfl) (by simp) ?_
        refine AllReadyH.cons rfl (fun K hK => ?_) AllReadyH.nil
        go_simp
        go_wp2_with (first | (go_at_call 157; refine (H2.out _).mono ?_; rintro e w4 ⟨ra4, rc4, rfl, og4, hb4⟩; have b4 := (hHeld.2.2).trans (hb4.mono (hHeld.2.2).size)))
        refine hK.out _ _ ?_ (fun hHeld => ?_)
        · try dsimp only
          exact HSx.out _ b4
        clear hK K
        have z4x0 := (hb4.cell z3L).trans z3x0
        have z4x1 := (hb4.cell z3L).trans z3x1
        have z4F : ∀ o, w4.frozen? ⟨w2.heap.size, o, none⟩ = false := fun o => (hb4.frozen z3L).trans (z3F o)
        have z4L : w2.heap.size < w4.heap.size := Nat.lt_of_lt_of_le z3L hb4.size
        clear z3x0 z3x1 z3F
        refine tk 8 17 rfl ?_
        simp only [pa]
        refine wpAnyH_ready (rs := [10]) (by kernel_rfl) (by simp) ?_
        refine AllReadyH.cons rfl (fun K hK => ?_) AllReadyH.nil
        go_simp
        refine hK.out _ _ ?_ (fun hHeld => ?_)
        · try dsimp only
          refine HSx.out _ ?_
          repeat (with_reducible refine Below.setCell ?_ ?_ _; rotate_left; (focus (exact (bl3))))
          exact (hHeld.2.2)
        clear hK K
        have HE := hidP (hHeld.2.2)
        refine wpAnyH_done (by kernel_rfl) ?_ _
        clear hHeld
        have hdr : W1.drew.heap.size = W1.heap.size := rfl
        have s0 := hb2.size
        have s1 := z3B.size
        have s2 := hb4.size
        have lo3 := fun k hk => OwnG.lt og2 k hk
        have lo7 := fun k hk => OwnG.lt og4 k hk
        have HF := hidP (And.intro (OwnG.mono (OwnG.later (OwnG.later og2 z3B) hb4) (by first | exact b1.size | exact z1M.size | exact Nat.le_refl _)) (OwnG.mono og4 (by first | exact b3.size | exact z3M.size | exact Nat.le_refl _)))
        have aL : w2.heap.size < w3.heap.size := z3L
        have d1 : ∀ k, (Value.slice ra2 NP rc2).ownBlock = some k → (Value.slice ra4 NB rc4).ownBlock ≠ some k := fun k h1 h2 => by have h3 := lo3 k h1; have h4 := lo7 k h2; omega
        have d2 : ∀ k, (Value.slice ra2 NP rc2).ownBlock = some k → k ≠ w2.heap.size := fun k h1 => by have h3 := lo3 k h1; omega
        have d3 : ∀ k, (Value.slice ra4 NB rc4).ownBlock = some k → k ≠ w2.heap.size := fun k h1 => by have h3 := lo7 k h1; omega
        have HD := hidP (And.intro d1 (And.intro d2 d3))
        clear lo3 lo7 d1 d2 d3 og2 og4 hdr aL s0 s1 s2
        go_wp2_with fail
        go_meet
        refine ⟨_, ra2, rc2, ra4, rc4, rfl, bl3, ?_, ?_, ?_, OwnG.put2 HF.out.1 HD.out.2.1, OwnG.put2 HF.out.2 HD.out.2.2, HD.out.1, HD.out.2.1, HD.out.2.2, HE.out⟩
        · simp; exact z4L
        all_goals (simp [go_sem, z4x0, z4x1])
    · go_simp
      obtain ⟨z2x0, z2x1⟩ := boxZ2 W1 25
      have z2F := frzZ2 W1 25
      have z2B := alloc_below W1 (.cells #[.slice none 0 0, .slice none 0 0] 25)
      have z2L := alloc_lt W1 (.cells #[.slice none 0 0, .slice none 0 0] 25)
      have z2x0 := (drew_cell (W1.alloc (.cells #[.slice none 0 0, .slice none 0 0] 25)) _).trans z2x0
      have z2x1 := (drew_cell (W1.alloc (.cells #[.slice none 0 0, .slice none 0 0] 25)) _).trans z2x1
      have z2F := fun o => (drew_frozen (W1.alloc (.cells #[.slice none 0 0, .slice none 0 0] 25)) _).trans (z2F o)
      have z2L := drew_size_lt z2L
      have z2M := z2B.drew
      generalize (W1.alloc (.cells #[.slice none 0 0, .slice none 0 0] 25)).drew = w2 at *
      refine hK.out _ _ ?_ (fun hHeld => ?_)
      · try dsimp only
        exact HSx.out _ z2M
      clear hK K
      have bl2 : W1.heap.size ≤ W1.heap.size := Nat.le_refl _
      refine wpAnyH_ready (rs := [3]) (by kernel_rfl) (by simp) ?_
      refine AllReadyH.cons rfl (fun K hK => ?_) AllReadyH.nil
      go_simp
      go_wp2_with (first | (go_at_call 157; refine (H1.out _).mono ?_; rintro e w3 ⟨ra3, rc3, rfl, og3, hb3⟩; have b3 := (hHeld.2.2).trans (hb3.mono (hHeld.2.2).size)))
      refine hK.out _ _ ?_ (fun hHeld => ?_)
      · try dsimp only
        exact HSx.out _ b3
      clear hK K
      have z3x0 := (hb3.cell z2L).trans z2x0
      have z3x1 := (hb3.cell z2L).trans z2x1
      have z3F : ∀ o, w3.frozen? ⟨W1.heap.size, o, none⟩ = false := fun o => (hb3.frozen z2L).trans (z2F o)
      have z3L : W1.heap.size < w3.heap.size := Nat.lt_of_lt_of_le z2L hb3.size
      clear z2x0 z2x1 z2F
      refine wpAnyH_ready (rs := [7]) (by kernel_rfl) (by simp) ?_
      refine AllReadyH.cons rfl (fun K hK => ?_) AllReadyH.nil
      go_simp
      go_wp2_with (first | (go_at_call 157; refine (H2.out _).mono ?_; rintro e w4 ⟨ra4, rc4, rfl, og4, hb4⟩; have b4 := (hHeld.2.2).trans (hb4.mono (hHeld.2.2).size)))
      refine hK.out _ _ ?_ (fun hHeld => ?_)
      · try dsimp only
        exact HSx.out _ b4
      clear hK K
      have z4x0 := (hb4.cell z3L).trans z3x0
      have z4x1 := (hb4.cell z3L).trans z3x1
      have z4F : ∀ o, w4.frozen? ⟨W1.heap.size, o, none⟩ = false := fun o => (hb4.frozen z3L).trans (z3F o)
      have z4L : W1.heap.size < w4.heap.size := Nat.lt_of_lt_of_le z3L hb4.size
      clear z3x0 z3x1 z3F
      refine tk 8 17 rfl ?_
      simp only [pa]
      refine wpAnyH_ready (rs := [10]) (by kernel_rfl) (by simp) ?_
      refine AllReadyH.cons rfl (fun K hK => ?_) AllReadyH.nil
      go_simp
      refine hK.out _ _ ?_ (fun hHeld => ?_)
      · try dsimp only
        refine HSx.out _ ?_
        repeat (with_reducible refine Below.setCell ?_ ?_ _; rotate_left; (focus (exact (bl2))))
        exact (hHeld.2.2)
      clear hK K
      have HE := hidP (hHeld.2.2)
      refine wpAnyH_done (by kernel_rfl) ?_ _
      clear hHeld
      have hdr : W1.drew.heap.size = W1.heap.size := rfl
      have s0 := z2B.size
      have s1 := hb3.size
      have s2 := hb4.size
      have lo3 := fun k hk => OwnG.lt og3 k hk
      have lo7 := fun k hk => OwnG.lt og4 k hk
      have HF := hidP (And.intro (OwnG.mono (OwnG.later og3 hb4) (by first | exact b2.size | exact z2M.size | exact Nat.le_refl _)) (OwnG.mono og4 (by first | exact b3.size | exact z3M.size | exact Nat.le_refl _)))
      have aL : W1.heap.size < w2.heap.size := z2L
      have d1 : ∀ k, (Value.slice ra3 NP rc3).ownBlock = some k → (Value.slice ra4 NB rc4).ownBlock ≠ some k := fun k h1 h2 => by have h3 := lo3 k h1; have h4 := lo7 k h2; omega
      have d2 : ∀ k, (Value.slice ra3 NP rc3).ownBlock = some k → k ≠ W1.heap.size := fun k h1 => by have h3 := lo3 k h1; omega
      have d3 : ∀ k, (Value.slice ra4 NB rc4).ownBlock = some k → k ≠ W1.heap.size := fun k h1 => by have h3 := lo7 k h1; omega
      have HD := hidP (And.intro d1 (And.intro d2 d3))
      clear lo3 lo7 d1 d2 d3 og3 og4 hdr aL s0 s1 s2
      go_wp2_with fail
      go_meet
      refine ⟨_, ra3, rc3, ra4, rc4, rfl, bl2, ?_, ?_, ?_, OwnG.put2 HF.out.1 HD.out.2.1, OwnG.put2 HF.out.2 HD.out.2.2, HD.out.1, HD.out.2.1, HD.out.2.2, HE.out⟩
      · simp; exact z4L
      all_goals (simp [go_sem, z4x0, z4x1])
  case rest =>
    obtain ⟨p4, a4, c4, b4, d4, rfl, hp4, gL, g0, g1, op4, ob4, ne4, na4, nb4, hX⟩ := hcut
    have OX := hidP (And.intro op4 (And.intro ob4 (And.intro ne4 (And.intro na4 nb4))))
    have hp5 : Hid (W1.heap.size ≤ p4) := hidP hp4
    clear op4 ob4 ne4 na4 nb4 q0 q1 qL hp4
    have rs0_wc := (hX.cell rsL_W1).trans rs0_W1
    have rs1_wc := (hX.cell rsL_W1).trans rs1_W1
    have rsF_wc : ∀ o, wc.frozen? ⟨w.heap.size, o, none⟩ = false := fun o => (hX.frozen rsL_W1).trans (rsF_W1 o)
    have rsL_wc : w.heap.size < wc.heap.size := Nat.lt_of_lt_of_le rsL_W1 hX.size
    have acc_wc := hidP (acc_W1.out.trans (hX.mono acc_W1.out.size))
    have sz_wc : Hid (W1.heap.size ≤ wc.heap.size) := hidP hX.size
    clear hX rs0_W1 rs1_W1 rsF_W1 rsL_W1 acc_W1
    have oP_wc := hidP (OX.out.1)
    have lhP : Hid (∀ k, (Value.slice a4 NP c4).ownBlock = some k → W1.heap.size ≤ k ∧ k < wc.heap.size) := hidP (fun k hk => OwnG.lt oP_wc.out k hk)
    have oQ_wc := hidP (OX.out.2.1)
    have lhQ : Hid (∀ k, (Value.slice b4 NB d4).ownBlock = some k → W1.heap.size ≤ k ∧ k < wc.heap.size) := hidP (fun k hk => OwnG.lt oQ_wc.out k hk)
    have ne4 := hidP OX.out.2.2.1
    clear OX
    have gb0_wc := g0
    have gb1_wc := g1
    have gbL_wc := gL
    have gbF_wc : True := trivial
    clear g0 g1 gL gbF_wc
    have lp4 : Hid (p4 < wc.heap.size) := hidP gbL_wc
    go_wp2_with fail
    refine (HGr.out _ a4 c4 b4 d4 oP_wc.out.row oQ_wc.out.row).mono ?_
    rintro e w5 ⟨rfl, hb5⟩
    have rs0_w5 := (hb5.cell rsL_wc).trans rs0_wc
    have rs1_w5 := (hb5.cell rsL_wc).trans rs1_wc
    have rsF_w5 : ∀ o, w5.frozen? ⟨w.heap.size, o, none⟩ = false := fun o => (hb5.frozen rsL_wc).trans (rsF_wc o)
    have rsL_w5 : w.heap.size < w5.heap.size := Nat.lt_of_lt_of_le rsL_wc hb5.size
    have gb0_w5 := (hb5.cell gbL_wc).trans gb0_wc
    have gb1_w5 := (hb5.cell gbL_wc).trans gb1_wc
    have gbL_w5 : p4 < w5.heap.size := Nat.lt_of_lt_of_le gbL_wc hb5.size
    have oP_w5 := hidP (OwnG.later oP_wc.out hb5)
    have oQ_w5 := hidP (OwnG.later oQ_wc.out hb5)
    have acc_w5 := hidP (acc_wc.out.trans (hb5.mono acc_wc.out.size))
    have sz_w5 : Hid (wc.heap.size ≤ w5.heap.size) := hidP hb5.size
    clear hb5 rs0_wc rs1_wc rsF_wc rsL_wc gb0_wc gb1_wc gbL_wc oP_wc oQ_wc acc_wc
    go_wp2_with fail
    refine bodyPost_ret (v := .tuple #[.agg #[.slice none 0 0, .slice none 0 0], .bool false]) (by simp [results, Try.results145, go_sem, rs0_w5, rs1_w5]) rfl ⟨_, _, _, _, rfl, own_noneG KI _ _ _, own_noneG KI _ _ _, (fun k h1 => by cases h1), ?_⟩
    repeat (with_reducible refine Below.setCell ?_ ?_ _; rotate_left; (focus (first | (simp; done) | (simp; omega) | (dsimp only; have := as_W1.out; have := sz_W1.out; have := sz_wc.out; have := sz_w5.out; omega))))
    exact acc_w5.out

set_option maxRecDepth 10000 in
set_option maxHeartbeats 4000000 in
theorem iGgA_good (g o cc bx bq : Nat) (hx : bx < 256) (hy : bq < 256) (w : World) (hB : RowG KBy w (some ⟨g, o, none⟩) [(bx : Int), (bq : Int)]) (hr : gotB bx bq = true) :
    Calls Try.prog 145 #[.slice (some ⟨g, o, none⟩) 2 cc] w fun e w' => ∃ a c b d, e = .returned (.tuple #[.agg #[.slice a (ofB 8 bx 1).length c, .slice b (ofB 8 bq 1).length d], .bool true]) ∧ OwnG KI 3 w' w.heap.size (.slice a (ofB 8 bx 1).length c) (ofB 8 bx 1) ∧ OwnG KI 3 w' w.heap.size (.slice b (ofB 8 bq 1).length d) (ofB 8 bq 1) ∧ (∀ k, (Value.slice a (ofB 8 bx 1).length c).ownBlock = some k → (Value.slice b (ofB 8 bq 1).length d).ownBlock ≠ some k) ∧ Below w.heap.size w w' := by
  have H1 := hidP (fun W => idsOfByte_any bx hx W)
  have H2 := hidP (fun W => idsOfByte_any bq hy W)
  have hl1 := ls_len ⟨bx, hx⟩
  have hl2 := ls_len ⟨bq, hy⟩
  simp only at hl1 hl2
  rw [← got_i bx bq hx hy] at hr
  have q0 : w.cell? ⟨g, o, none⟩ = some (.int .u8 (bx : Int)) := by obtain ⟨p, o', q, ha, hp, hq, c⟩ := hB 0 (by simp); simp at ha hq; obtain ⟨rfl, rfl⟩ := ha; subst hq; have := c 0 _ rfl; simpa [KBy] using this
  have q1 : w.cell? ⟨g, o + 1, none⟩ = some (.int .u8 (bq : Int)) := by obtain ⟨p, o', q, ha, hp, hq, c⟩ := hB 1 (by simp); simp at ha hq; obtain ⟨rfl, rfl⟩ := ha; subst hq; have := c 0 _ rfl; simpa [KBy] using this
  have qL : g < w.heap.size := World.block_lt_of_cell? w _ q0
  have HB := hidP (And.intro q0 (And.intro q1 qL))
  clear q0 q1 qL hB
  obtain ⟨PS, hPS⟩ : ∃ PS, PS = ofB 8 bx 1 := ⟨_, rfl⟩
  obtain ⟨BS, hBS⟩ : ∃ BS, BS = ofB 8 bq 1 := ⟨_, rfl⟩
  obtain ⟨NP, hNP⟩ : ∃ NP, NP = PS.length := ⟨_, rfl⟩
  obtain ⟨NB, hNB⟩ : ∃ NB, NB = BS.length := ⟨_, rfl⟩
  rw [← hPS, ← hBS, ← hNP, ← hNB]
  rw [← hPS, ← hBS] at hr
  rw [← hPS, ← hNP] at H1
  rw [← hBS, ← hNB] at H2
  have n1 : NP ≤ 8 := by rw [hNP, hPS]; exact hl1.1
  have n2 : NB ≤ 8 := by rw [hNB, hBS]; exact hl2.1
  have HGr := hidP (fun W a c b d e1 e2 => iGroupOk_any a NP c b NB d PS BS W hNP hNB e1 e2 (by omega) (by omega))
  rw [hr] at HGr
  clear hr hPS hBS hNP hNB hl1 hl2
  go_enter Try.func145, Try.ntmps145
  go_upto_region 3 with fail
  obtain ⟨rs0_W1, rs1_W1⟩ := box2D w 25 (.slice none 0 0) (.slice none 0 0)
  have rsF_W1 : ∀ o, (w.alloc (.cells #[.slice none 0 0, .slice none 0 0] 25)).frozen? ⟨w.heap.size, o, none⟩ = false := fun o => by simp [go_sem]
  have rsL_W1 : w.heap.size < (w.alloc (.cells #[.slice none 0 0, .slice none 0 0] 25)).heap.size := by simp
  have ab_W1 := alloc_below w (.cells #[.slice none 0 0, .slice none 0 0] 25)
  have as_W1 : Hid ((w.alloc (.cells #[.slice none 0 0, .slice none 0 0] 25)).heap.size = w.heap.size + 1) := hidP (by simp)
  generalize w.alloc (.cells #[.slice none 0 0, .slice none 0 0] 25) = W1 at *
  have acc_W1 := hidP (ab_W1)
  have sz_W1 : Hid (w.heap.size ≤ W1.heap.size) := hidP ab_W1.size
  clear ab_W1 
  have q0 := (acc_W1.out.cell HB.out.2.2).trans HB.out.1
  have q1 := (acc_W1.out.cell HB.out.2.2).trans HB.out.2.1
  have qL : g < W1.heap.size := Nat.lt_of_lt_of_le HB.out.2.2 acc_W1.out.size
  go_cut [4] (fun t4 X => ∃ (p : Nat) (a : Option Addr) (c : Nat) (b : Option Addr) (d : Nat), t4 = .pointer (some ⟨p, 0, none⟩) ∧ W1.heap.size ≤ p ∧ p < X.heap.size ∧ X.cell? ⟨p, 0, none⟩ = some (.slice a NP c) ∧ X.cell? ⟨p, 1, none⟩ = some (.slice b NB d) ∧ OwnG KI 3 X W1.heap.size (.slice a NP c) PS ∧ OwnG KI 3 X W1.heap.size (.slice b NB d) BS ∧ (∀ k, (Value.slice a NP c).ownBlock = some k → (Value.slice b NB d).ownBlock ≠ some k) ∧ (∀ k, (Value.slice a NP c).ownBlock = some k → k ≠ p) ∧ (∀ k, (Value.slice b NB d).ownBlock = some k → k ≠ p) ∧ Below W1.heap.size W1 X)
  case first =>
    have HSx : Hid (∀ x, Below W1.heap.size W1 x → (x.cell? ⟨g, o, none⟩ = some (.int .u8 (bx : Int)) ∧ x.cell? ⟨g, o + 1, none⟩ = some (.int .u8 (bq : Int)) ∧ Below W1.heap.size W1 x)) := hidP fun x h =>
      ⟨(h.cell qL).trans q0, (h.cell qL).trans q1, h⟩
    refine wp_region_held_drew (S := (fun x => x.cell? ⟨g, o, none⟩ = some (.int .u8 (bx : Int)) ∧ x.cell? ⟨g, o + 1, none⟩ = some (.int .u8 (bq : Int)) ∧ Below W1.heap.size W1 x)) (by kernel_rfl) ?_ (fun hHeld => ?_)
    · try dsimp only
      exact HSx.out _ (Below.refl _ _).drew
    refine tk 0 9 rfl ?_
    simp only [pa]
    refine tk 1 10 rfl ?_
    simp only [pa]
    refine tk 2 11 rfl ?_
    simp only [pa]
    refine tk 4 13 rfl ?_
    simp only [pa]
    refine tk 5 14 rfl ?_
    simp only [pa]
    refine tk 6 15 rfl ?_
    simp only [pa]
    refine wpAnyH_ready (rs := [3, 9]) (by kernel_rfl) (by simp) ?_
    refine AllReadyH.cons rfl (fun K hK => ?_) (AllReadyH.cons rfl (fun K hK => ?_) AllReadyH.nil)
    · go_simp
      go_wp2_with (first | (go_at_call 157; refine (H1.out _).mono ?_; rintro e w2 ⟨ra2, rc2, rfl, og2, hb2⟩; have b2 := (hHeld.2.2).trans (hb2.mono (hHeld.2.2).size)))
      refine hK.out _ _ ?_ (fun hHeld => ?_)
      · try dsimp only
        exact HSx.out _ b2
      clear hK K
      refine wpAnyH_ready (rs := [7, 9]) (by kernel_rfl) (by simp) ?_
      refine AllReadyH.cons rfl (fun K hK => ?_) (AllReadyH.cons rfl (fun K hK => ?_) AllReadyH.nil)
      · go_simp
        go_wp2_with (first | (go_at_call 157; refine (H2.out _).mono ?_; rintro e w3 ⟨ra3, rc3, rfl, og3, hb3⟩; have b3 := (hHeld.2.2).trans (hb3.mono (hHeld.2.2).size)))
        refine hK.out _ _ ?_ (fun hHeld => ?_)
        · try dsimp only
          exact HSx.out _ b3
        clear hK K
        refine tk 8 17 rfl ?_
        simp only [pa]
        refine wpAnyH_ready (rs := [9]) (by kernel_rfl) (by simp) ?_
        refine AllReadyH.cons rfl (fun K hK => ?_) AllReadyH.nil
        go_simp
        obtain ⟨z4x0, z4x1⟩ := boxZ2 w3 25
        have z4F := frzZ2 w3 25
        have z4B := alloc_below w3 (.cells #[.slice none 0 0, .slice none 0 0] 25)
        have z4L := alloc_lt w3 (.cells #[.slice none 0 0, .slice none 0 0] 25)
        have z4M := (hHeld.2.2).trans (z4B.mono (hHeld.2.2).size)
        generalize w3.alloc (.cells #[.slice none 0 0, .slice none 0 0] 25) = w4 at *
        refine hK.out _ _ ?_ (fun hHeld => ?_)
        · try dsimp only
          exact HSx.out _ z4M
        clear hK K
        have bl4 : W1.heap.size ≤ w3.heap.size := b3.size
        refine wpAnyH_ready (rs := [10]) (by kernel_rfl) (by simp) ?_
        refine AllReadyH.cons rfl (fun K hK => ?_) AllReadyH.nil
        go_simp
        refine hK.out _ _ ?_ (fun hHeld => ?_)
        · try dsimp only
          refine HSx.out _ ?_
          repeat (with_reducible refine Below.setCell ?_ ?_ _; rotate_left; (focus (exact (bl4))))
          exact (hHeld.2.2)
        clear hK K
        have HE := hidP (hHeld.2.2)
        refine wpAnyH_done (by kernel_rfl) ?_ _
        clear hHeld
        have hdr : W1.drew.heap.size = W1.heap.size := rfl
        have s0 := hb2.size
        have s1 := hb3.size
        have s2 := z4B.size
        have lo3 := fun k hk => OwnG.lt og2 k hk
        have lo7 := fun k hk => OwnG.lt og3 k hk
        have HF := hidP (And.intro (OwnG.mono (OwnG.later (OwnG.later og2 hb3) z4B) (by first | exact b1.size | exact z1M.size | exact Nat.le_refl _)) (OwnG.mono (OwnG.later og3 z4B) (by first | exact b2.size | exact z2M.size | exact Nat.le_refl _)))
        have aL : w3.heap.size < w4.heap.size := z4L
        have d1 : ∀ k, (Value.slice ra2 NP rc2).ownBlock = some k → (Value.slice ra3 NB rc3).ownBlock ≠ some k := fun k h1 h2 => by have h3 := lo3 k h1; have h4 := lo7 k h2; omega
        have d2 : ∀ k, (Value.slice ra2 NP rc2).ownBlock = some k → k ≠ w3.heap.size := fun k h1 => by have h3 := lo3 k h1; omega
        have d3 : ∀ k, (Value.slice ra3 NB rc3).ownBlock = some k → k ≠ w3.heap.size := fun k h1 => by have h3 := lo7 k h1; omega
        have HD := hidP (And.intro d1 (And.intro d2 d3))
        clear lo3 lo7 d1 d2 d3 og2 og3 hdr aL s0 s1 s2
        go_wp2_with fail
        go_meet
        refine ⟨_, ra2, rc2, ra3, rc3, rfl, bl4, ?_, ?_, ?_, OwnG.put2 HF.out.1 HD.out.2.1, OwnG.put2 HF.out.2 HD.out.2.2, HD.out.1, HD.out.2.1, HD.out.2.2, HE.out⟩
        · simp; exact z4L
        all_goals (simp [go_sem, z4x0, z4x1])
      · go_simp
        obtain ⟨z3x0, z3x1⟩ := boxZ2 w2 25
        have z3F := frzZ2 w2 25
        have z3B := alloc_below w2 (.cells #[.slice none 0 0, .slice none 0 0] 25)
        have z3L := alloc_lt w2 (.cells #[.slice none 0 0, .slice none 0 0] 25)
        have z3M := (hHeld.2.2).trans (z3B.mono (hHeld.2.2).size)
        generalize w2.alloc (.cells #[.slice none 0 0, .slice none 0 0] 25) = w3 at *
        refine hK.out _ _ ?_ (fun hHeld => ?_)
        · try dsimp only
          exact HSx.out _ z3M
        clear hK K
        have bl3 : W1.heap.size ≤ w2.heap.size := b2.size
        refine wpAnyH_ready (rs := [7]) (by kernel_rfl) (by simp) ?_
        refine AllReadyH.cons rfl (fun K hK => ?_) AllReadyH.nil
        go_simp
        go_wp2_with (first | (go_at_call 157; refine (H2.out _).mono ?_; rintro e w4 ⟨ra4, rc4, rfl, og4, hb4⟩; have b4 := (hHeld.2.2).trans (hb4.mono (hHeld.2.2).size)))
        refine hK.out _ _ ?_ (fun hHeld => ?_)
        · try dsimp only
          exact HSx.out _ b4
        clear hK K
        have z4x0 := (hb4.cell z3L).trans z3x0
        have z4x1 := (hb4.cell z3L).trans z3x1
        have z4F : ∀ o, w4.frozen? ⟨w2.heap.size, o, none⟩ = false := fun o => (hb4.frozen z3L).trans (z3F o)
        have z4L : w2.heap.size < w4.heap.size := Nat.lt_of_lt_of_le z3L hb4.size
        clear z3x0 z3x1 z3F
        refine tk 8 17 rfl ?_
        simp only [pa]
        refine wpAnyH_ready (rs := [10]) (by kernel_rfl) (by simp) ?_
        refine AllReadyH.cons rfl (fun K hK => ?_) AllReadyH.nil
        go_simp
        refine hK.out _ _ ?_ (fun hHeld => ?_)
        · try dsimp only
          refine HSx.out _ ?_
          repeat (with_reducible refine Below.setCell ?_ ?_ _; rotate_left; (focus (exact (bl3))))
          exact (hHeld.2.2)
        clear hK K
        have HE := hidP (hHeld.2.2)
        refine wpAnyH_done (by kernel_rfl) ?_ _
        clear hHeld
        have hdr : W1.drew.heap.size = W1.heap.size := rfl
        have s0 := hb2.size
        have s1 := z3B.size
        have s2 := hb4.size
        have lo3 := fun k hk => OwnG.lt og2 k hk
        have lo7 := fun k hk => OwnG.lt og4 k hk
        have HF := hidP (And.intro (OwnG.mono (OwnG.later (OwnG.later og2 z3B) hb4) (by first | exact b1.size | exact z1M.size | exact Nat.le_refl _)) (OwnG.mono og4 (by first | exact b3.size | exact z3M.size | exact Nat.le_refl _)))
        have aL : w2.heap.size < w3.heap.size := z3L
        have d1 : ∀ k, (Value.slice ra2 NP rc2).ownBlock = some k → (Value.slice ra4 NB rc4).ownBlock ≠ some k := fun k h1 h2 => by have h3 := lo3 k h1; have h4 := lo7 k h2; omega
        have d2 : ∀ k, (Value.slice ra2 NP rc2).ownBlock = some k → k ≠ w2.heap.size := fun k h1 => by have h3 := lo3 k h1; omega
        have d3 : ∀ k, (Value.slice ra4 NB rc4).ownBlock = some k → k ≠ w2.heap.size := fun k h1 => by have h3 := lo7 k h1; omega
        have HD := hidP (And.intro d1 (And.intro d2 d3))
        clear lo3 lo7 d1 d2 d3 og2 og4 hdr aL s0 s1 s2
        go_wp2_with fail
        go_meet
        refine ⟨_, ra2, rc2, ra4, rc4, rfl, bl3, ?_, ?_, ?_, OwnG.put2 HF.out.1 HD.out.2.1, OwnG.put2 HF.out.2 HD.out.2.2, HD.out.1, HD.out.2.1, HD.out.2.2, HE.out⟩
        · simp; exact z4L
        all_goals (simp [go_sem, z4x0, z4x1])
    · go_simp
      obtain ⟨z2x0, z2x1⟩ := boxZ2 W1 25
      have z2F := frzZ2 W1 25
      have z2B := alloc_below W1 (.cells #[.slice none 0 0, .slice none 0 0] 25)
      have z2L := alloc_lt W1 (.cells #[.slice none 0 0, .slice none 0 0] 25)
      have z2x0 := (drew_cell (W1.alloc (.cells #[.slice none 0 0, .slice none 0 0] 25)) _).trans z2x0
      have z2x1 := (drew_cell (W1.alloc (.cells #[.slice none 0 0, .slice none 0 0] 25)) _).trans z2x1
      have z2F := fun o => (drew_frozen (W1.alloc (.cells #[.slice none 0 0, .slice none 0 0] 25)) _).trans (z2F o)
      have z2L := drew_size_lt z2L
      have z2M := z2B.drew
      generalize (W1.alloc (.cells #[.slice none 0 0, .slice none 0 0] 25)).drew = w2 at *
      refine hK.out _ _ ?_ (fun hHeld => ?_)
      · try dsimp only
        exact HSx.out _ z2M
      clear hK K
      have bl2 : W1.heap.size ≤ W1.heap.size := Nat.le_refl _
      refine wpAnyH_ready (rs := [3]) (by kernel_rfl) (by simp) ?_
      refine AllReadyH.cons rfl (fun K hK => ?_) AllReadyH.nil
      go_simp
      go_wp2_with (first | (go_at_call 157; refine (H1.out _).mono ?_; rintro e w3 ⟨ra3, rc3, rfl, og3, hb3⟩; have b3 := (hHeld.2.2).trans (hb3.mono (hHeld.2.2).size)))
      refine hK.out _ _ ?_ (fun hHeld => ?_)
      · try dsimp only
        exact HSx.out _ b3
      clear hK K
      have z3x0 := (hb3.cell z2L).trans z2x0
      have z3x1 := (hb3.cell z2L).trans z2x1
      have z3F : ∀ o, w3.frozen? ⟨W1.heap.size, o, none⟩ = false := fun o => (hb3.frozen z2L).trans (z2F o)
      have z3L : W1.heap.size < w3.heap.size := Nat.lt_of_lt_of_le z2L hb3.size
      clear z2x0 z2x1 z2F
      refine wpAnyH_ready (rs := [7]) (by kernel_rfl) (by simp) ?_
      refine AllReadyH.cons rfl (fun K hK => ?_) AllReadyH.nil
      go_simp
      go_wp2_with (first | (go_at_call 157; refine (H2.out _).mono ?_; rintro e w4 ⟨ra4, rc4, rfl, og4, hb4⟩; have b4 := (hHeld.2.2).trans (hb4.mono (hHeld.2.2).size)))
      refine hK.out _ _ ?_ (fun hHeld => ?_)
      · try dsimp only
        exact HSx.out _ b4
      clear hK K
      have z4x0 := (hb4.cell z3L).trans z3x0
      have z4x1 := (hb4.cell z3L).trans z3x1
      have z4F : ∀ o, w4.frozen? ⟨W1.heap.size, o, none⟩ = false := fun o => (hb4.frozen z3L).trans (z3F o)
      have z4L : W1.heap.size < w4.heap.size := Nat.lt_of_lt_of_le z3L hb4.size
      clear z3x0 z3x1 z3F
      refine tk 8 17 rfl ?_
      simp only [pa]
      refine wpAnyH_ready (rs := [10]) (by kernel_rfl) (by simp) ?_
      refine AllReadyH.cons rfl (fun K hK => ?_) AllReadyH.nil
      go_simp
      refine hK.out _ _ ?_ (fun hHeld => ?_)
      · try dsimp only
        refine HSx.out _ ?_
        repeat (with_reducible refine Below.setCell ?_ ?_ _; rotate_left; (focus (exact (bl2))))
        exact (hHeld.2.2)
      clear hK K
      have HE := hidP (hHeld.2.2)
      refine wpAnyH_done (by kernel_rfl) ?_ _
      clear hHeld
      have hdr : W1.drew.heap.size = W1.heap.size := rfl
      have s0 := z2B.size
      have s1 := hb3.size
      have s2 := hb4.size
      have lo3 := fun k hk => OwnG.lt og3 k hk
      have lo7 := fun k hk => OwnG.lt og4 k hk
      have HF := hidP (And.intro (OwnG.mono (OwnG.later og3 hb4) (by first | exact b2.size | exact z2M.size | exact Nat.le_refl _)) (OwnG.mono og4 (by first | exact b3.size | exact z3M.size | exact Nat.le_refl _)))
      have aL : W1.heap.size < w2.heap.size := z2L
      have d1 : ∀ k, (Value.slice ra3 NP rc3).ownBlock = some k → (Value.slice ra4 NB rc4).ownBlock ≠ some k := fun k h1 h2 => by have h3 := lo3 k h1; have h4 := lo7 k h2; omega
      have d2 : ∀ k, (Value.slice ra3 NP rc3).ownBlock = some k → k ≠ W1.heap.size := fun k h1 => by have h3 := lo3 k h1; omega
      have d3 : ∀ k, (Value.slice ra4 NB rc4).ownBlock = some k → k ≠ W1.heap.size := fun k h1 => by have h3 := lo7 k h1; omega
      have HD := hidP (And.intro d1 (And.intro d2 d3))
      clear lo3 lo7 d1 d2 d3 og3 og4 hdr aL s0 s1 s2
      go_wp2_with fail
      go_meet
      refine ⟨_, ra3, rc3, ra4, rc4, rfl, bl2, ?_, ?_, ?_, OwnG.put2 HF.out.1 HD.out.2.1, OwnG.put2 HF.out.2 HD.out.2.2, HD.out.1, HD.out.2.1, HD.out.2.2, HE.out⟩
      · simp; exact z4L
      all_goals (simp [go_sem, z4x0, z4x1])
  case rest =>
    obtain ⟨p4, a4, c4, b4, d4, rfl, hp4, gL, g0, g1, op4, ob4, ne4, na4, nb4, hX⟩ := hcut
    have OX := hidP (And.intro op4 (And.intro ob4 (And.intro ne4 (And.intro na4 nb4))))
    have hp5 : Hid (W1.heap.size ≤ p4) := hidP hp4
    clear op4 ob4 ne4 na4 nb4 q0 q1 qL hp4
    have rs0_wc := (hX.cell rsL_W1).trans rs0_W1
    have rs1_wc := (hX.cell rsL_W1).trans rs1_W1
    have rsF_wc : ∀ o, wc.frozen? ⟨w.heap.size, o, none⟩ = false := fun o => (hX.frozen rsL_W1).trans (rsF_W1 o)
    have rsL_wc : w.heap.size < wc.heap.size := Nat.lt_of_lt_of_le rsL_W1 hX.size
    have acc_wc := hidP (acc_W1.out.trans (hX.mono acc_W1.out.size))
    have sz_wc : Hid (W1.heap.size ≤ wc.heap.size) := hidP hX.size
    clear hX rs0_W1 rs1_W1 rsF_W1 rsL_W1 acc_W1
    have oP_wc := hidP (OX.out.1)
    have lhP : Hid (∀ k, (Value.slice a4 NP c4).ownBlock = some k → W1.heap.size ≤ k ∧ k < wc.heap.size) := hidP (fun k hk => OwnG.lt oP_wc.out k hk)
    have oQ_wc := hidP (OX.out.2.1)
    have lhQ : Hid (∀ k, (Value.slice b4 NB d4).ownBlock = some k → W1.heap.size ≤ k ∧ k < wc.heap.size) := hidP (fun k hk => OwnG.lt oQ_wc.out k hk)
    have ne4 := hidP OX.out.2.2.1
    clear OX
    have gb0_wc := g0
    have gb1_wc := g1
    have gbL_wc := gL
    have gbF_wc : True := trivial
    clear g0 g1 gL gbF_wc
    have lp4 : Hid (p4 < wc.heap.size) := hidP gbL_wc
    go_wp2_with fail
    refine (HGr.out _ a4 c4 b4 d4 oP_wc.out.row oQ_wc.out.row).mono ?_
    rintro e w5 ⟨rfl, hb5⟩
    have rs0_w5 := (hb5.cell rsL_wc).trans rs0_wc
    have rs1_w5 := (hb5.cell rsL_wc).trans rs1_wc
    have rsF_w5 : ∀ o, w5.frozen? ⟨w.heap.size, o, none⟩ = false := fun o => (hb5.frozen rsL_wc).trans (rsF_wc o)
    have rsL_w5 : w.heap.size < w5.heap.size := Nat.lt_of_lt_of_le rsL_wc hb5.size
    have gb0_w5 := (hb5.cell gbL_wc).trans gb0_wc
    have gb1_w5 := (hb5.cell gbL_wc).trans gb1_wc
    have gbL_w5 : p4 < w5.heap.size := Nat.lt_of_lt_of_le gbL_wc hb5.size
    have oP_w5 := hidP (OwnG.later oP_wc.out hb5)
    have oQ_w5 := hidP (OwnG.later oQ_wc.out hb5)
    have acc_w5 := hidP (acc_wc.out.trans (hb5.mono acc_wc.out.size))
    have sz_w5 : Hid (wc.heap.size ≤ w5.heap.size) := hidP hb5.size
    clear hb5 rs0_wc rs1_wc rsF_wc rsL_wc gb0_wc gb1_wc gbL_wc oP_wc oQ_wc acc_wc
    go_wp2_with fail
    refine bodyPost_ret (v := .tuple #[.agg #[.slice a4 NP c4, .slice b4 NB d4], .bool true]) (by simp [results, Try.results145, go_sem, rs0_w5, rs1_w5]) rfl ⟨_, _, _, _, rfl, ?_, ?_, ne4.out, ?_⟩
    · refine OwnG.mono (B := W1.heap.size) ?_ (by have := as_W1.out; have := sz_W1.out; have := sz_wc.out; have := sz_w5.out; omega)
      iterate 2 (with_reducible refine OwnG.grown ?_ (grown_cellG _ _ _ _) ?_; rotate_left; (focus (exact OwnG.ne_of oP_w5.out (by have := as_W1.out; have := sz_W1.out; have := sz_wc.out; have := sz_w5.out; omega))))
      with_reducible exact oP_w5.out
    · refine OwnG.mono (B := W1.heap.size) ?_ (by have := as_W1.out; have := sz_W1.out; have := sz_wc.out; have := sz_w5.out; omega)
      iterate 2 (with_reducible refine OwnG.grown ?_ (grown_cellG _ _ _ _) ?_; rotate_left; (focus (exact OwnG.ne_of oQ_w5.out (by have := as_W1.out; have := sz_W1.out; have := sz_wc.out; have := sz_w5.out; omega))))
      with_reducible exact oQ_w5.out
    · repeat (with_reducible refine Below.setCell ?_ ?_ _; rotate_left; (focus (first | (simp; done) | (simp; omega) | (dsimp only; have := as_W1.out; have := sz_W1.out; have := sz_wc.out; have := sz_w5.out; omega))))
      exact acc_w5.out

/-- Whether bytes are a group's. -/
def gB : List Int → Bool
  | [u, v] => gotB u.toNat v.toNat
  | _ => false
theorem iGet_any (a : Option Addr) (n c : Nat) (zs : List Int) (w : World) (hn : n = zs.length) (ho : Oct zs) (hB : RowG KBy w a zs) :
    Calls Try.prog 145 #[.slice a n c] w fun e w' => ∃ a1 n1 c1 b1 m1 d1 ps bs, e = .returned (.tuple #[.agg #[.slice a1 n1 c1, .slice b1 m1 d1], .bool (gB zs)]) ∧ n1 = ps.length ∧ m1 = bs.length ∧ n1 ≤ 8 ∧ m1 ≤ 8 ∧ OwnG KI 3 w' w.heap.size (.slice a1 n1 c1) ps ∧ OwnG KI 3 w' w.heap.size (.slice b1 m1 d1) bs ∧ (gB zs = true → grB ps bs = true) ∧ Below w.heap.size w w' := by
  by_cases h2 : n = 2
  · subst h2
    match zs, hn, ho, hB with
    | [u, v], _, ho, hB =>
      have hu := ho u (by simp)
      have hv := ho v (by simp)
      obtain ⟨bx, rfl⟩ : ∃ bx : Nat, u = (bx : Int) := ⟨u.toNat, by omega⟩
      obtain ⟨bq, rfl⟩ : ∃ bq : Nat, v = (bq : Int) := ⟨v.toNat, by omega⟩
      have hx : bx < 256 := by omega
      have hy : bq < 256 := by omega
      obtain ⟨p, o, q, rfl, _⟩ := hB 0 (by simp)
      have l1 := (ls_len ⟨bx, hx⟩).1
      have l2 := (ls_len ⟨bq, hy⟩).1
      simp only at l1 l2
      have hg : gB [(bx : Int), (bq : Int)] = gotB bx bq := by simp [gB]
      rw [hg]
      cases he : gotB bx bq
      · refine (iGgA_bad p o c bx bq hx hy w hB he).mono ?_
        rintro e w' ⟨a1, c1, b1, d1, rfl, o1, o2, _, hb⟩
        exact ⟨a1, 0, c1, b1, 0, d1, [], [], rfl, rfl, rfl, by omega, by omega, o1, o2, (fun h => by cases h), hb⟩
      · refine (iGgA_good p o c bx bq hx hy w hB he).mono ?_
        rintro e w' ⟨a1, c1, b1, d1, rfl, o1, o2, _, hb⟩
        exact ⟨a1, _, c1, b1, _, d1, _, _, rfl, rfl, rfl, l1, l2, o1, o2, (fun _ => by rw [got_i bx bq hx hy]; exact he), hb⟩
  · have hg : gB zs = false := by
      match zs, hn with
      | [], _ => rfl
      | [_], _ => rfl
      | [_, _], h => exact absurd h h2
      | _ :: _ :: _ :: _, _ => rfl
    rw [hg]
    refine (iGg_len a n c h2 w).mono ?_
    rintro e w' ⟨a1, c1, b1, d1, rfl, o1, o2, _, hb⟩
    exact ⟨a1, 0, c1, b1, 0, d1, [], [], rfl, rfl, rfl, by omega, by omega, o1, o2, (fun h => by cases h), hb⟩

end Go.Proofs.Ytmfbmnpfgbenmaa
