/-
  For every code: of the book that is drawn Advance keeps just the leases that have not run out and says the others, and a lease renewed is held at its old end, as the law FnTime asks; the card ties the one variable that errors.As reads to the program's text; no other condition.
-/
import Derived.Test.YtddnofonodgneaaGreatDoorCards
import Derived.Test.YtddnofonodgneaaGreatDoorTie
import Derived.Test.YtddnofonodgneaaGreatDoorWAd6
import Derived.Test.YtddnofonodgneaaGreatDoorK6Tm
import Derived.Test.YtddnofonodgneaaGreatDoorV6Same
import Derived.Test.YtddnofonodgneaaGreatDoorV6SBk
import Derived.ProofKit
import Derived.Lib.SmallJoins
import Derived.Carry
import Derived.Deep.Slices
import Derived.ChangeMaps5
import Derived.ChangeSame
import Derived.ChangeVars
import Derived.JoinedOf
import Derived.LaidLaws
import Derived.LaidHandle
import Derived.Stop.Joined
import Derived.Deep.DeepCutAuto
namespace Go.Proofs.YtddnofonodgneaaGreatDoor
open Go.ChangeShapes Go.WideShapes Go.ChangeAt Go.RowKit Go.Joins Go.Deep

theorem bigF (a : Option Addr) (len cap : Nat) (w : World) :
    Calls Tryz.prog 5 #[.slice a len cap] w fun e w' => e = .returned (.bool (decide ((1048576 : Int) < (len : Int)))) ∧ w' = w := by
  cases d : decide ((1048576 : Int) < (len : Int))
  all_goals
    go_enter Tryz.func5, Tryz.ntmps5
    go_wp2
    go_ret
    exact ⟨rfl, rfl⟩

theorem Tryz.ownB6 : ownKnob Tryz.prog.godebug = none := by kernel_rfl
theorem Tryz.laidOutB6 : laidOutB Tryz.prog = true := by kernel_rfl
theorem Tryz.cellsByte : Tryz.prog.cellsOf 5 = 1 := by kernel_rfl

/-- The code's bytes out of the reading of a row of bytes. -/
theorem bytes_open {H : Type} {enc : TypeId × Value → H} {W : World} {a : Option Addr} {len cap : Nat} {d : DataW H} {p : List MemPlace}
    (h : DataW.Trod enc Tryz.prog W 0 (fun _ => true) true 22 (.slice a len cap) d p) : Bytes W a len := by
  obtain ⟨fuel, hf⟩ := h
  rcases open_slice1 Tryz.underlying22 Tryz.cellsByte hf with ⟨hcs, _⟩ | ⟨a', len', cap', m, n, V, D, Pl, hcs, _, hl, _, hm, _, hV⟩
  · simp [Value.cells] at hcs
    obtain ⟨rfl, rfl, rfl⟩ := hcs
    exact fun j hj => absurd hj (Nat.not_lt_zero j)
  · simp [Value.cells] at hcs
    obtain ⟨rfl, rfl, rfl⟩ := hcs
    intro j hj
    simp at hm
    obtain ⟨hc, ht⟩ := hV j (by omega)
    obtain ⟨v, e, _, wv⟩ := DataW.trod_int Tryz.underlying5 ht
    simp at e
    rw [e] at hc
    have hb : 0 ≤ v ∧ v ≤ 255 := by simpa [Lit.wf, IntKind.min, IntKind.max, IntKind.signed, IntKind.bits] using wv
    obtain ⟨p', o', sp⟩ := a'
    cases sp with
    | some q =>
      exfalso
      have h0 := (hV 0 (by omega)).1
      rw [show Addr.add ⟨p', o', some q⟩ 0 = ⟨p', o', some q⟩ from rfl] at h0
      unfold World.cell? at h0
      split at h0
      · simp at h0
      · cases h0
    | none =>
      have hc' : W.cell? ⟨p', o' + j, none⟩ = some (.int .u8 v) := by
        cases j with
        | zero => simpa [Addr.add] using hc
        | succ i => simpa [Addr.add] using hc
      exact ⟨p', o', v, rfl, World.block_lt_of_cell? W _ hc', hc', hb.1, by omega⟩

theorem box6T (w : World) (t : TypeId) (v0 v1 v2 v3 v4 v5 : Value) : (w.alloc (.cells #[v0, v1, v2, v3, v4, v5] t)).cell? ⟨w.heap.size, 0, none⟩ = some v0 ∧ (w.alloc (.cells #[v0, v1, v2, v3, v4, v5] t)).cell? ⟨w.heap.size, 1, none⟩ = some v1 ∧ (w.alloc (.cells #[v0, v1, v2, v3, v4, v5] t)).cell? ⟨w.heap.size, 2, none⟩ = some v2 ∧ (w.alloc (.cells #[v0, v1, v2, v3, v4, v5] t)).cell? ⟨w.heap.size, 3, none⟩ = some v3 ∧ (w.alloc (.cells #[v0, v1, v2, v3, v4, v5] t)).cell? ⟨w.heap.size, 4, none⟩ = some v4 ∧ (w.alloc (.cells #[v0, v1, v2, v3, v4, v5] t)).cell? ⟨w.heap.size, 5, none⟩ = some v5 := by
  refine ⟨?_, ?_, ?_, ?_, ?_, ?_⟩ <;> simp [go_sem]
set_option maxRecDepth 10000 in
set_option maxHeartbeats 8000000 in
theorem lawTime (a : Option Addr) (len cap : Nat) (w : World) (hB : Bytes w a len) (hg : GlobE w) :
    Calls Tryz.prog 4 #[.slice a len cap] w fun e w' => e = .returned (.bool true) ∧ Below w.heap.size w w' := by
  have HG := hidP (bigF a len cap)
  cases hbig : decide ((1048576 : Int) < (len : Int))
  rotate_left
  · rw [hbig] at HG
    clear hB
    go_enter Tryz.func4, Tryz.ntmps4
    go_wp2_with fail
    refine (HG.out _).mono ?_
    rintro e w0 ⟨rfl, hw0⟩
    rw [hw0]
    clear hw0 w0
    go_wp2_with fail
    go_ret
    exact ⟨rfl, Below.refl _ _⟩
  rw [hbig] at HG
  have hl : len ≤ 1048576 := by have := of_decide_eq_false hbig; omega
  have HGl := hidP hg
  have HDr := hidP (drawAdv_any a len cap w hB hl)
  clear hB hbig hg
  go_enter Tryz.func4, Tryz.ntmps4
  go_wp2_with fail
  refine (HG.out _).mono ?_
  rintro e w0 ⟨rfl, hw0⟩
  rw [hw0]
  clear hw0 w0
  go_wp2_with fail
  refine (HDr.out).mono ?_
  rintro e w1 ⟨b, n, d, K, N, ls, u, rfl, hn, h81, hs, hoD, hb1⟩
  have OD := hidP hoD
  have HN := hidP hn
  have HS := hidP hs.st
  clear hoD hn hs
  have acc_w1 := hidP (hb1)
  have sz_w1 : Hid (w.heap.size ≤ w1.heap.size) := hidP hb1.size
  clear hb1 
  have oD_w1 := hidP (OD.out)
  have lhD : Hid (∀ k, (Value.slice b n d).ownBlock = some k → w.heap.size ≤ k ∧ k < w1.heap.size) := hidP (fun k hk => OwnG.lt oD_w1.out k hk)
  clear OD HG HDr
  go_wp2_with fail
  obtain ⟨bd0_W2, bd1_W2, bd2_W2⟩ := box3B w1 26 (.slice b n d) (.int .i64 K) (.int .i64 N)
  have bdF_W2 : ∀ o, (w1.alloc (.cells #[.slice b n d, .int .i64 K, .int .i64 N] 26)).frozen? ⟨w1.heap.size, o, none⟩ = false := fun o => by simp [go_sem]
  have bdL_W2 : w1.heap.size < (w1.alloc (.cells #[.slice b n d, .int .i64 K, .int .i64 N] 26)).heap.size := by simp
  have ab_W2 := alloc_below w1 (.cells #[.slice b n d, .int .i64 K, .int .i64 N] 26)
  have as_W2 : Hid ((w1.alloc (.cells #[.slice b n d, .int .i64 K, .int .i64 N] 26)).heap.size = w1.heap.size + 1) := hidP (by simp)
  generalize w1.alloc (.cells #[.slice b n d, .int .i64 K, .int .i64 N] 26) = W2 at *
  have oD_W2 := hidP (OwnG.later oD_w1.out ab_W2)
  have acc_W2 := hidP (acc_w1.out.trans (ab_W2.mono acc_w1.out.size))
  have sz_W2 : Hid (w1.heap.size ≤ W2.heap.size) := hidP ab_W2.size
  clear ab_W2 oD_w1 acc_w1
  cases hr : (bkB ls K N && (decide (N < u) && decide (u ≤ 1000000000)))
  · refine (iAdv_no b n d K N ls _ HN.out oD_W2.out.row (by omega) HS.out u hr).mono ?_
    rintro e w3 ⟨A3, C3, B3, D3, rfl, oR, oG, hne3, hb3⟩
    have OR := hidP oR
    clear oR oG hne3
    have bd0_w3 := (hb3.cell bdL_W2).trans bd0_W2
    have bd1_w3 := (hb3.cell bdL_W2).trans bd1_W2
    have bd2_w3 := (hb3.cell bdL_W2).trans bd2_W2
    have bdF_w3 : ∀ o, w3.frozen? ⟨w1.heap.size, o, none⟩ = false := fun o => (hb3.frozen bdL_W2).trans (bdF_W2 o)
    have bdL_w3 : w1.heap.size < w3.heap.size := Nat.lt_of_lt_of_le bdL_W2 hb3.size
    have oD_w3 := hidP (OwnG.later oD_W2.out hb3)
    have acc_w3 := hidP (acc_W2.out.trans (hb3.mono acc_W2.out.size))
    have sz_w3 : Hid (W2.heap.size ≤ w3.heap.size) := hidP hb3.size
    clear hb3 bd0_W2 bd1_W2 bd2_W2 bdF_W2 bdL_W2 oD_W2 acc_W2
    have oR_w3 := hidP (OR.out)
    have lhR : Hid (∀ k, (Value.slice A3 n C3).ownBlock = some k → W2.heap.size ≤ k ∧ k < w3.heap.size) := hidP (fun k hk => OwnG.lt oR_w3.out k hk)
    clear OR
    go_wp2_with fail
    obtain ⟨bn0_W4, bn1_W4, bn2_W4⟩ := box3B w3 26 (.slice A3 n C3) (.int .i64 K) (.int .i64 N)
    have bnF_W4 : ∀ o, (w3.alloc (.cells #[.slice A3 n C3, .int .i64 K, .int .i64 N] 26)).frozen? ⟨w3.heap.size, o, none⟩ = false := fun o => by simp [go_sem]
    have bnL_W4 : w3.heap.size < (w3.alloc (.cells #[.slice A3 n C3, .int .i64 K, .int .i64 N] 26)).heap.size := by simp
    have ab_W4 := alloc_below w3 (.cells #[.slice A3 n C3, .int .i64 K, .int .i64 N] 26)
    have as_W4 : Hid ((w3.alloc (.cells #[.slice A3 n C3, .int .i64 K, .int .i64 N] 26)).heap.size = w3.heap.size + 1) := hidP (by simp)
    generalize w3.alloc (.cells #[.slice A3 n C3, .int .i64 K, .int .i64 N] 26) = W4 at *
    have bd0_W4 := (ab_W4.cell bdL_w3).trans bd0_w3
    have bd1_W4 := (ab_W4.cell bdL_w3).trans bd1_w3
    have bd2_W4 := (ab_W4.cell bdL_w3).trans bd2_w3
    have bdF_W4 : ∀ o, W4.frozen? ⟨w1.heap.size, o, none⟩ = false := fun o => (ab_W4.frozen bdL_w3).trans (bdF_w3 o)
    have bdL_W4 : w1.heap.size < W4.heap.size := Nat.lt_of_lt_of_le bdL_w3 ab_W4.size
    have oD_W4 := hidP (OwnG.later oD_w3.out ab_W4)
    have oR_W4 := hidP (OwnG.later oR_w3.out ab_W4)
    have acc_W4 := hidP (acc_w3.out.trans (ab_W4.mono acc_w3.out.size))
    have sz_W4 : Hid (w3.heap.size ≤ W4.heap.size) := hidP ab_W4.size
    clear ab_W4 bd0_w3 bd1_w3 bd2_w3 bdF_w3 bdL_w3 oD_w3 oR_w3 acc_w3
    have HSo := hidP (fun W a c e1 => sBookOk_any a n c K N ls W HN.out e1 (by omega) HS.out)
    have HIo := hidP (fun W a c e1 => iBookOk_any a n c K N ls W HN.out e1 (by omega) HS.out)
    have HSm := hidP (fun W a c a' c' e1 e2 => sameBook_any a a' n c c' K N ls W HN.out e1 e2 (by omega))
    cases hb : bkB ls K N
    · rw [hb] at HSo HIo hr
      clear hr hb
      refine (HSo.out _ b d oD_W4.out.row).mono ?_
      rintro e w5 ⟨rfl, hb5⟩
      have bd0_w5 := (hb5.cell bdL_W4).trans bd0_W4
      have bd1_w5 := (hb5.cell bdL_W4).trans bd1_W4
      have bd2_w5 := (hb5.cell bdL_W4).trans bd2_W4
      have bdF_w5 : ∀ o, w5.frozen? ⟨w1.heap.size, o, none⟩ = false := fun o => (hb5.frozen bdL_W4).trans (bdF_W4 o)
      have bdL_w5 : w1.heap.size < w5.heap.size := Nat.lt_of_lt_of_le bdL_W4 hb5.size
      have bn0_w5 := (hb5.cell bnL_W4).trans bn0_W4
      have bn1_w5 := (hb5.cell bnL_W4).trans bn1_W4
      have bn2_w5 := (hb5.cell bnL_W4).trans bn2_W4
      have bnF_w5 : ∀ o, w5.frozen? ⟨w3.heap.size, o, none⟩ = false := fun o => (hb5.frozen bnL_W4).trans (bnF_W4 o)
      have bnL_w5 : w3.heap.size < w5.heap.size := Nat.lt_of_lt_of_le bnL_W4 hb5.size
      have oD_w5 := hidP (OwnG.later oD_W4.out hb5)
      have oR_w5 := hidP (OwnG.later oR_W4.out hb5)
      have acc_w5 := hidP (acc_W4.out.trans (hb5.mono acc_W4.out.size))
      have sz_w5 : Hid (W4.heap.size ≤ w5.heap.size) := hidP hb5.size
      clear hb5 bd0_W4 bd1_W4 bd2_W4 bdF_W4 bdL_W4 bn0_W4 bn1_W4 bn2_W4 bnF_W4 bnL_W4 oD_W4 oR_W4 acc_W4
      go_wp2_with fail
      have HSx : Hid (∀ x, Below w5.heap.size w5 x → (x.cell? ⟨w3.heap.size, 0, none⟩ = some (.slice A3 n C3) ∧ x.cell? ⟨w3.heap.size, 1, none⟩ = some (.int .i64 K) ∧ x.cell? ⟨w3.heap.size, 2, none⟩ = some (.int .i64 N) ∧ x.cell? ⟨w1.heap.size, 0, none⟩ = some (.slice b n d) ∧ x.cell? ⟨w1.heap.size, 1, none⟩ = some (.int .i64 K) ∧ x.cell? ⟨w1.heap.size, 2, none⟩ = some (.int .i64 N) ∧ Below w5.heap.size w5 x)) := hidP fun x h =>
        ⟨(h.cell bnL_w5).trans bn0_w5, (h.cell bnL_w5).trans bn1_w5, (h.cell bnL_w5).trans bn2_w5, (h.cell bdL_w5).trans bd0_w5, (h.cell bdL_w5).trans bd1_w5, (h.cell bdL_w5).trans bd2_w5, h⟩
      refine wp_region_held_drew (S := (fun x => x.cell? ⟨w3.heap.size, 0, none⟩ = some (.slice A3 n C3) ∧ x.cell? ⟨w3.heap.size, 1, none⟩ = some (.int .i64 K) ∧ x.cell? ⟨w3.heap.size, 2, none⟩ = some (.int .i64 N) ∧ x.cell? ⟨w1.heap.size, 0, none⟩ = some (.slice b n d) ∧ x.cell? ⟨w1.heap.size, 1, none⟩ = some (.int .i64 K) ∧ x.cell? ⟨w1.heap.size, 2, none⟩ = some (.int .i64 N) ∧ Below w5.heap.size w5 x)) (by kernel_rfl) ?_ (fun hHeld => ?_)
      · try dsimp only
        exact HSx.out _ ((Below.refl _ _).drew)
      refine wpAnyH_take (i := 0) (oi := ⟨some 43, _, _, _, _, _⟩) (v := ?_) rfl (by kernel_rfl) (by kernel_rfl) (by kernel_rfl) (fun _ _ _ h => h) (Or.inl ⟨by rfl, ?_⟩) (by assumption) ?_
      rotate_left
      · intro w hSw
        try dsimp only at hSw
        go_simp
        try with_reducible rfl
      simp only [Act.put, List.setIfInBounds_toArray, List.set_cons_zero, List.set_cons_succ]
      refine wpAnyH_take (i := 1) (oi := ⟨some 44, _, _, _, _, _⟩) (v := ?_) rfl (by kernel_rfl) (by kernel_rfl) (by kernel_rfl) (fun _ _ _ h => h) (Or.inl ⟨by rfl, ?_⟩) (by assumption) ?_
      rotate_left
      · intro w hSw
        try dsimp only at hSw
        go_simp
        try with_reducible rfl
      simp only [Act.put, List.setIfInBounds_toArray, List.set_cons_zero, List.set_cons_succ]
      refine wpAnyH_ready (rs := [2]) (by kernel_rfl) (by simp) ?_
      refine AllReadyH.cons rfl (fun K hK => ?_) AllReadyH.nil
      go_simp
      go_wp2_with (first | (go_at_call 9; refine (HSm.out _ A3 C3 b d (oR_w5.out.row.later (hHeld.2.2.2.2.2.2)) (oD_w5.out.row.later (hHeld.2.2.2.2.2.2))).mono ?_; rintro e w6 ⟨rfl, hb6⟩; have b6 := (hHeld.2.2.2.2.2.2).trans (hb6.mono (hHeld.2.2.2.2.2.2).size)))
      refine hK.out _ _ ?_ (fun hHeld => ?_)
      · try dsimp only
        exact HSx.out _ b6
      clear hK K
      refine wpAnyH_take (i := 3) (oi := ⟨some 46, _, _, _, _, _⟩) (v := ?_) rfl (by kernel_rfl) (by kernel_rfl) (by kernel_rfl) (fun _ _ _ h => h) (Or.inl ⟨by rfl, ?_⟩) (by assumption) ?_
      rotate_left
      · intro w hSw
        try dsimp only at hSw
        go_simp
        try with_reducible rfl
      simp only [Act.put, List.setIfInBounds_toArray, List.set_cons_zero, List.set_cons_succ]
      refine wpAnyH_take (i := 4) (oi := ⟨some 47, _, _, _, _, _⟩) (v := ?_) rfl (by kernel_rfl) (by kernel_rfl) (by kernel_rfl) (fun _ _ _ h => h) (Or.inl ⟨by rfl, ?_⟩) (by assumption) ?_
      rotate_left
      · intro w hSw
        try dsimp only at hSw
        go_simp
        try with_reducible rfl
      simp only [Act.put, List.setIfInBounds_toArray, List.set_cons_zero, List.set_cons_succ]
      refine wpAnyH_take (i := 5) (oi := ⟨some 48, _, _, _, _, _⟩) (v := ?_) rfl (by kernel_rfl) (by kernel_rfl) (by kernel_rfl) (fun _ _ _ h => h) (Or.inl ⟨by rfl, ?_⟩) (by assumption) ?_
      rotate_left
      · intro w hSw
        try dsimp only at hSw
        go_simp
        try with_reducible rfl
      simp only [Act.put, List.setIfInBounds_toArray, List.set_cons_zero, List.set_cons_succ]
      refine wpAnyH_take (i := 6) (oi := ⟨some 49, _, _, _, _, _⟩) (v := ?_) rfl (by kernel_rfl) (by kernel_rfl) (by kernel_rfl) (fun _ _ _ h => h) (Or.inl ⟨by rfl, ?_⟩) (by assumption) ?_
      rotate_left
      · intro w hSw
        try dsimp only at hSw
        go_simp
        try with_reducible rfl
      simp only [Act.put, List.setIfInBounds_toArray, List.set_cons_zero, List.set_cons_succ]
      refine wpAnyH_take (i := 7) (oi := ⟨some 50, _, _, _, _, _⟩) (v := ?_) rfl (by kernel_rfl) (by kernel_rfl) (by kernel_rfl) (fun _ _ _ h => h) (Or.inl ⟨by rfl, ?_⟩) (by assumption) ?_
      rotate_left
      · intro w hSw
        try dsimp only at hSw
        go_simp
        try with_reducible rfl
      simp only [Act.put, List.setIfInBounds_toArray, List.set_cons_zero, List.set_cons_succ]
      refine wpAnyH_take (i := 8) (oi := ⟨some 51, _, _, _, _, _⟩) (v := ?_) rfl (by kernel_rfl) (by kernel_rfl) (by kernel_rfl) (fun _ _ _ h => h) (Or.inl ⟨by rfl, ?_⟩) (by assumption) ?_
      rotate_left
      · intro w hSw
        try dsimp only at hSw
        go_simp
        try with_reducible rfl
      simp only [Act.put, List.setIfInBounds_toArray, List.set_cons_zero, List.set_cons_succ]
      refine wpAnyH_take (i := 9) (oi := ⟨some 52, _, _, _, _, _⟩) (v := ?_) rfl (by kernel_rfl) (by kernel_rfl) (by kernel_rfl) (fun _ _ _ h => h) (Or.inl ⟨by rfl, ?_⟩) (by assumption) ?_
      rotate_left
      · intro w hSw
        try dsimp only at hSw
        go_simp
        try with_reducible rfl
      simp only [Act.put, List.setIfInBounds_toArray, List.set_cons_zero, List.set_cons_succ]
      refine wpAnyH_take (i := 11) (oi := ⟨some 54, _, _, _, _, _⟩) (v := ?_) rfl (by kernel_rfl) (by kernel_rfl) (by kernel_rfl) (fun _ _ _ h => h) (Or.inl ⟨by rfl, ?_⟩) (by assumption) ?_
      rotate_left
      · intro w hSw
        try dsimp only at hSw
        go_simp
        try with_reducible rfl
      simp only [Act.put, List.setIfInBounds_toArray, List.set_cons_zero, List.set_cons_succ]
      refine wpAnyH_ready (rs := [10]) (by kernel_rfl) (by simp) ?_
      refine AllReadyH.cons rfl (fun K hK => ?_) AllReadyH.nil
      go_simp
      go_wp2_with (first | (go_at_call 13; refine (HIo.out _ b d (oD_w5.out.row.later (hHeld.2.2.2.2.2.2))).mono ?_; rintro e w7 ⟨rfl, hb7⟩; have b7 := (hHeld.2.2.2.2.2.2).trans (hb7.mono (hHeld.2.2.2.2.2.2).size)))
      refine hK.out _ _ ?_ (fun hHeld => ?_)
      · try dsimp only
        exact HSx.out _ b7
      clear hK K
      refine wpAnyH_ready (rs := [12]) (by kernel_rfl) (by simp) ?_
      refine AllReadyH.cons rfl (fun K hK => ?_) AllReadyH.nil
      go_simp
      go_wp2_with (first | (go_at_call 16; refine (HSo.out _ b d (oD_w5.out.row.later (hHeld.2.2.2.2.2.2))).mono ?_; rintro e w8 ⟨rfl, hb8⟩; have b8 := (hHeld.2.2.2.2.2.2).trans (hb8.mono (hHeld.2.2.2.2.2.2).size)))
      refine hK.out _ _ ?_ (fun hHeld => ?_)
      · try dsimp only
        exact HSx.out _ b8
      clear hK K
      refine wpAnyH_take (i := 13) (oi := ⟨some 56, _, _, _, _, _⟩) (v := ?_) rfl (by kernel_rfl) (by kernel_rfl) (by kernel_rfl) (fun _ _ _ h => h) (Or.inl ⟨by rfl, ?_⟩) (by assumption) ?_
      rotate_left
      · intro w hSw
        try dsimp only at hSw
        go_simp
        try with_reducible rfl
      simp only [Act.put, List.setIfInBounds_toArray, List.set_cons_zero, List.set_cons_succ]
      refine wpAnyH_take (i := 14) (oi := ⟨some 57, _, _, _, _, _⟩) (v := ?_) rfl (by kernel_rfl) (by kernel_rfl) (by kernel_rfl) (fun _ _ _ h => h) (Or.inl ⟨by rfl, ?_⟩) (by assumption) ?_
      rotate_left
      · intro w hSw
        try dsimp only at hSw
        go_simp
        try with_reducible rfl
      simp only [Act.put, List.setIfInBounds_toArray, List.set_cons_zero, List.set_cons_succ]
      refine wpAnyH_take (i := 15) (oi := ⟨some 2, _, _, _, _, _⟩) (v := ?_) rfl (by kernel_rfl) (by kernel_rfl) (by kernel_rfl) (fun _ _ _ h => h) (Or.inl ⟨by rfl, ?_⟩) (by assumption) ?_
      rotate_left
      · intro w hSw
        try dsimp only at hSw
        go_simp
        try with_reducible rfl
      simp only [Act.put, List.setIfInBounds_toArray, List.set_cons_zero, List.set_cons_succ]
      have HE := hidP (hHeld.2.2.2.2.2.2)
      refine wpAnyH_done (by kernel_rfl) ?_ _
      clear hHeld
      go_wp2_with fail
      go_ret
      exact ⟨rfl, acc_w5.out.trans (HE.out.mono acc_w5.out.size)⟩
    · by_cases hu : u ≤ N
      · rw [hb] at HSo HIo hr
        have e1 : decide (u ≤ N) = true := decide_eq_true hu
        clear hr hb
        refine (HSo.out _ b d oD_W4.out.row).mono ?_
        rintro e w5 ⟨rfl, hb5⟩
        have bd0_w5 := (hb5.cell bdL_W4).trans bd0_W4
        have bd1_w5 := (hb5.cell bdL_W4).trans bd1_W4
        have bd2_w5 := (hb5.cell bdL_W4).trans bd2_W4
        have bdF_w5 : ∀ o, w5.frozen? ⟨w1.heap.size, o, none⟩ = false := fun o => (hb5.frozen bdL_W4).trans (bdF_W4 o)
        have bdL_w5 : w1.heap.size < w5.heap.size := Nat.lt_of_lt_of_le bdL_W4 hb5.size
        have bn0_w5 := (hb5.cell bnL_W4).trans bn0_W4
        have bn1_w5 := (hb5.cell bnL_W4).trans bn1_W4
        have bn2_w5 := (hb5.cell bnL_W4).trans bn2_W4
        have bnF_w5 : ∀ o, w5.frozen? ⟨w3.heap.size, o, none⟩ = false := fun o => (hb5.frozen bnL_W4).trans (bnF_W4 o)
        have bnL_w5 : w3.heap.size < w5.heap.size := Nat.lt_of_lt_of_le bnL_W4 hb5.size
        have oD_w5 := hidP (OwnG.later oD_W4.out hb5)
        have oR_w5 := hidP (OwnG.later oR_W4.out hb5)
        have acc_w5 := hidP (acc_W4.out.trans (hb5.mono acc_W4.out.size))
        have sz_w5 : Hid (W4.heap.size ≤ w5.heap.size) := hidP hb5.size
        clear hb5 bd0_W4 bd1_W4 bd2_W4 bdF_W4 bdL_W4 bn0_W4 bn1_W4 bn2_W4 bnF_W4 bnL_W4 oD_W4 oR_W4 acc_W4
        go_wp2_with fail
        have HSx : Hid (∀ x, Below w5.heap.size w5 x → (x.cell? ⟨w3.heap.size, 0, none⟩ = some (.slice A3 n C3) ∧ x.cell? ⟨w3.heap.size, 1, none⟩ = some (.int .i64 K) ∧ x.cell? ⟨w3.heap.size, 2, none⟩ = some (.int .i64 N) ∧ x.cell? ⟨w1.heap.size, 0, none⟩ = some (.slice b n d) ∧ x.cell? ⟨w1.heap.size, 1, none⟩ = some (.int .i64 K) ∧ x.cell? ⟨w1.heap.size, 2, none⟩ = some (.int .i64 N) ∧ Below w5.heap.size w5 x)) := hidP fun x h =>
          ⟨(h.cell bnL_w5).trans bn0_w5, (h.cell bnL_w5).trans bn1_w5, (h.cell bnL_w5).trans bn2_w5, (h.cell bdL_w5).trans bd0_w5, (h.cell bdL_w5).trans bd1_w5, (h.cell bdL_w5).trans bd2_w5, h⟩
        refine wp_region_held_drew (S := (fun x => x.cell? ⟨w3.heap.size, 0, none⟩ = some (.slice A3 n C3) ∧ x.cell? ⟨w3.heap.size, 1, none⟩ = some (.int .i64 K) ∧ x.cell? ⟨w3.heap.size, 2, none⟩ = some (.int .i64 N) ∧ x.cell? ⟨w1.heap.size, 0, none⟩ = some (.slice b n d) ∧ x.cell? ⟨w1.heap.size, 1, none⟩ = some (.int .i64 K) ∧ x.cell? ⟨w1.heap.size, 2, none⟩ = some (.int .i64 N) ∧ Below w5.heap.size w5 x)) (by kernel_rfl) ?_ (fun hHeld => ?_)
        · try dsimp only
          exact HSx.out _ ((Below.refl _ _).drew)
        refine wpAnyH_take (i := 0) (oi := ⟨some 43, _, _, _, _, _⟩) (v := ?_) rfl (by kernel_rfl) (by kernel_rfl) (by kernel_rfl) (fun _ _ _ h => h) (Or.inl ⟨by rfl, ?_⟩) (by assumption) ?_
        rotate_left
        · intro w hSw
          try dsimp only at hSw
          go_simp
          try with_reducible rfl
        simp only [Act.put, List.setIfInBounds_toArray, List.set_cons_zero, List.set_cons_succ]
        refine wpAnyH_take (i := 1) (oi := ⟨some 44, _, _, _, _, _⟩) (v := ?_) rfl (by kernel_rfl) (by kernel_rfl) (by kernel_rfl) (fun _ _ _ h => h) (Or.inl ⟨by rfl, ?_⟩) (by assumption) ?_
        rotate_left
        · intro w hSw
          try dsimp only at hSw
          go_simp
          try with_reducible rfl
        simp only [Act.put, List.setIfInBounds_toArray, List.set_cons_zero, List.set_cons_succ]
        refine wpAnyH_ready (rs := [2]) (by kernel_rfl) (by simp) ?_
        refine AllReadyH.cons rfl (fun K hK => ?_) AllReadyH.nil
        go_simp
        go_wp2_with (first | (go_at_call 9; refine (HSm.out _ A3 C3 b d (oR_w5.out.row.later (hHeld.2.2.2.2.2.2)) (oD_w5.out.row.later (hHeld.2.2.2.2.2.2))).mono ?_; rintro e w6 ⟨rfl, hb6⟩; have b6 := (hHeld.2.2.2.2.2.2).trans (hb6.mono (hHeld.2.2.2.2.2.2).size)))
        refine hK.out _ _ ?_ (fun hHeld => ?_)
        · try dsimp only
          exact HSx.out _ b6
        clear hK K
        refine wpAnyH_take (i := 3) (oi := ⟨some 46, _, _, _, _, _⟩) (v := ?_) rfl (by kernel_rfl) (by kernel_rfl) (by kernel_rfl) (fun _ _ _ h => h) (Or.inl ⟨by rfl, ?_⟩) (by assumption) ?_
        rotate_left
        · intro w hSw
          try dsimp only at hSw
          go_simp
          try with_reducible rfl
        simp only [Act.put, List.setIfInBounds_toArray, List.set_cons_zero, List.set_cons_succ]
        refine wpAnyH_take (i := 4) (oi := ⟨some 47, _, _, _, _, _⟩) (v := ?_) rfl (by kernel_rfl) (by kernel_rfl) (by kernel_rfl) (fun _ _ _ h => h) (Or.inl ⟨by rfl, ?_⟩) (by assumption) ?_
        rotate_left
        · intro w hSw
          try dsimp only at hSw
          go_simp
          try with_reducible rfl
        simp only [Act.put, List.setIfInBounds_toArray, List.set_cons_zero, List.set_cons_succ]
        refine wpAnyH_take (i := 5) (oi := ⟨some 48, _, _, _, _, _⟩) (v := ?_) rfl (by kernel_rfl) (by kernel_rfl) (by kernel_rfl) (fun _ _ _ h => h) (Or.inl ⟨by rfl, ?_⟩) (by assumption) ?_
        rotate_left
        · intro w hSw
          try dsimp only at hSw
          go_simp
          try with_reducible rfl
        simp only [Act.put, List.setIfInBounds_toArray, List.set_cons_zero, List.set_cons_succ]
        refine wpAnyH_take (i := 6) (oi := ⟨some 49, _, _, _, _, _⟩) (v := ?_) rfl (by kernel_rfl) (by kernel_rfl) (by kernel_rfl) (fun _ _ _ h => h) (Or.inl ⟨by rfl, ?_⟩) (by assumption) ?_
        rotate_left
        · intro w hSw
          try dsimp only at hSw
          go_simp
          try with_reducible rfl
        simp only [Act.put, List.setIfInBounds_toArray, List.set_cons_zero, List.set_cons_succ]
        refine wpAnyH_take (i := 7) (oi := ⟨some 50, _, _, _, _, _⟩) (v := ?_) rfl (by kernel_rfl) (by kernel_rfl) (by kernel_rfl) (fun _ _ _ h => h) (Or.inl ⟨by rfl, ?_⟩) (by assumption) ?_
        rotate_left
        · intro w hSw
          try dsimp only at hSw
          go_simp
          try with_reducible rfl
        simp only [Act.put, List.setIfInBounds_toArray, List.set_cons_zero, List.set_cons_succ]
        refine wpAnyH_take (i := 8) (oi := ⟨some 51, _, _, _, _, _⟩) (v := ?_) rfl (by kernel_rfl) (by kernel_rfl) (by kernel_rfl) (fun _ _ _ h => h) (Or.inl ⟨by rfl, ?_⟩) (by assumption) ?_
        rotate_left
        · intro w hSw
          try dsimp only at hSw
          go_simp
          try with_reducible rfl
        simp only [Act.put, List.setIfInBounds_toArray, List.set_cons_zero, List.set_cons_succ]
        refine wpAnyH_take (i := 9) (oi := ⟨some 52, _, _, _, _, _⟩) (v := ?_) rfl (by kernel_rfl) (by kernel_rfl) (by kernel_rfl) (fun _ _ _ h => h) (Or.inl ⟨by rfl, ?_⟩) (by assumption) ?_
        rotate_left
        · intro w hSw
          try dsimp only at hSw
          go_simp
          try with_reducible rfl
        simp only [Act.put, List.setIfInBounds_toArray, List.set_cons_zero, List.set_cons_succ]
        refine wpAnyH_take (i := 11) (oi := ⟨some 54, _, _, _, _, _⟩) (v := ?_) rfl (by kernel_rfl) (by kernel_rfl) (by kernel_rfl) (fun _ _ _ h => h) (Or.inl ⟨by rfl, ?_⟩) (by assumption) ?_
        rotate_left
        · intro w hSw
          try dsimp only at hSw
          go_simp
          try with_reducible rfl
        simp only [Act.put, List.setIfInBounds_toArray, List.set_cons_zero, List.set_cons_succ]
        refine wpAnyH_ready (rs := [10]) (by kernel_rfl) (by simp) ?_
        refine AllReadyH.cons rfl (fun K hK => ?_) AllReadyH.nil
        go_simp
        go_wp2_with (first | (go_at_call 13; refine (HIo.out _ b d (oD_w5.out.row.later (hHeld.2.2.2.2.2.2))).mono ?_; rintro e w7 ⟨rfl, hb7⟩; have b7 := (hHeld.2.2.2.2.2.2).trans (hb7.mono (hHeld.2.2.2.2.2.2).size)))
        refine hK.out _ _ ?_ (fun hHeld => ?_)
        · try dsimp only
          exact HSx.out _ b7
        clear hK K
        refine wpAnyH_ready (rs := [12]) (by kernel_rfl) (by simp) ?_
        refine AllReadyH.cons rfl (fun K hK => ?_) AllReadyH.nil
        go_simp
        go_wp2_with (first | (go_at_call 16; refine (HSo.out _ b d (oD_w5.out.row.later (hHeld.2.2.2.2.2.2))).mono ?_; rintro e w8 ⟨rfl, hb8⟩; have b8 := (hHeld.2.2.2.2.2.2).trans (hb8.mono (hHeld.2.2.2.2.2.2).size)))
        refine hK.out _ _ ?_ (fun hHeld => ?_)
        · try dsimp only
          exact HSx.out _ b8
        clear hK K
        refine wpAnyH_take (i := 13) (oi := ⟨some 56, _, _, _, _, _⟩) (v := ?_) rfl (by kernel_rfl) (by kernel_rfl) (by kernel_rfl) (fun _ _ _ h => h) (Or.inl ⟨by rfl, ?_⟩) (by assumption) ?_
        rotate_left
        · intro w hSw
          try dsimp only at hSw
          go_simp
          try with_reducible rfl
        simp only [Act.put, List.setIfInBounds_toArray, List.set_cons_zero, List.set_cons_succ]
        refine wpAnyH_take (i := 14) (oi := ⟨some 57, _, _, _, _, _⟩) (v := ?_) rfl (by kernel_rfl) (by kernel_rfl) (by kernel_rfl) (fun _ _ _ h => h) (Or.inl ⟨by rfl, ?_⟩) (by assumption) ?_
        rotate_left
        · intro w hSw
          try dsimp only at hSw
          go_simp
          try with_reducible rfl
        simp only [Act.put, List.setIfInBounds_toArray, List.set_cons_zero, List.set_cons_succ]
        refine wpAnyH_take (i := 15) (oi := ⟨some 2, _, _, _, _, _⟩) (v := ?_) rfl (by kernel_rfl) (by kernel_rfl) (by kernel_rfl) (fun _ _ _ h => h) (Or.inl ⟨by rfl, ?_⟩) (by assumption) ?_
        rotate_left
        · intro w hSw
          try dsimp only at hSw
          go_simp
          try with_reducible rfl
        simp only [Act.put, List.setIfInBounds_toArray, List.set_cons_zero, List.set_cons_succ]
        have HE := hidP (hHeld.2.2.2.2.2.2)
        refine wpAnyH_done (by kernel_rfl) ?_ _
        clear hHeld
        go_wp2_with fail
        go_ret
        exact ⟨rfl, acc_w5.out.trans (HE.out.mono acc_w5.out.size)⟩
      · rw [hb] at HSo HIo hr
        have e1 : decide (u ≤ N) = false := decide_eq_false hu
        have e2 : decide (1000000000 < u) = true := decide_eq_true (by rw [Bool.true_and, Bool.and_eq_false_iff, decide_eq_false_iff_not, decide_eq_false_iff_not] at hr; omega)
        clear hr hb
        refine (HSo.out _ b d oD_W4.out.row).mono ?_
        rintro e w5 ⟨rfl, hb5⟩
        have bd0_w5 := (hb5.cell bdL_W4).trans bd0_W4
        have bd1_w5 := (hb5.cell bdL_W4).trans bd1_W4
        have bd2_w5 := (hb5.cell bdL_W4).trans bd2_W4
        have bdF_w5 : ∀ o, w5.frozen? ⟨w1.heap.size, o, none⟩ = false := fun o => (hb5.frozen bdL_W4).trans (bdF_W4 o)
        have bdL_w5 : w1.heap.size < w5.heap.size := Nat.lt_of_lt_of_le bdL_W4 hb5.size
        have bn0_w5 := (hb5.cell bnL_W4).trans bn0_W4
        have bn1_w5 := (hb5.cell bnL_W4).trans bn1_W4
        have bn2_w5 := (hb5.cell bnL_W4).trans bn2_W4
        have bnF_w5 : ∀ o, w5.frozen? ⟨w3.heap.size, o, none⟩ = false := fun o => (hb5.frozen bnL_W4).trans (bnF_W4 o)
        have bnL_w5 : w3.heap.size < w5.heap.size := Nat.lt_of_lt_of_le bnL_W4 hb5.size
        have oD_w5 := hidP (OwnG.later oD_W4.out hb5)
        have oR_w5 := hidP (OwnG.later oR_W4.out hb5)
        have acc_w5 := hidP (acc_W4.out.trans (hb5.mono acc_W4.out.size))
        have sz_w5 : Hid (W4.heap.size ≤ w5.heap.size) := hidP hb5.size
        clear hb5 bd0_W4 bd1_W4 bd2_W4 bdF_W4 bdL_W4 bn0_W4 bn1_W4 bn2_W4 bnF_W4 bnL_W4 oD_W4 oR_W4 acc_W4
        go_wp2_with fail
        have HSx : Hid (∀ x, Below w5.heap.size w5 x → (x.cell? ⟨w3.heap.size, 0, none⟩ = some (.slice A3 n C3) ∧ x.cell? ⟨w3.heap.size, 1, none⟩ = some (.int .i64 K) ∧ x.cell? ⟨w3.heap.size, 2, none⟩ = some (.int .i64 N) ∧ x.cell? ⟨w1.heap.size, 0, none⟩ = some (.slice b n d) ∧ x.cell? ⟨w1.heap.size, 1, none⟩ = some (.int .i64 K) ∧ x.cell? ⟨w1.heap.size, 2, none⟩ = some (.int .i64 N) ∧ Below w5.heap.size w5 x)) := hidP fun x h =>
          ⟨(h.cell bnL_w5).trans bn0_w5, (h.cell bnL_w5).trans bn1_w5, (h.cell bnL_w5).trans bn2_w5, (h.cell bdL_w5).trans bd0_w5, (h.cell bdL_w5).trans bd1_w5, (h.cell bdL_w5).trans bd2_w5, h⟩
        refine wp_region_held_drew (S := (fun x => x.cell? ⟨w3.heap.size, 0, none⟩ = some (.slice A3 n C3) ∧ x.cell? ⟨w3.heap.size, 1, none⟩ = some (.int .i64 K) ∧ x.cell? ⟨w3.heap.size, 2, none⟩ = some (.int .i64 N) ∧ x.cell? ⟨w1.heap.size, 0, none⟩ = some (.slice b n d) ∧ x.cell? ⟨w1.heap.size, 1, none⟩ = some (.int .i64 K) ∧ x.cell? ⟨w1.heap.size, 2, none⟩ = some (.int .i64 N) ∧ Below w5.heap.size w5 x)) (by kernel_rfl) ?_ (fun hHeld => ?_)
        · try dsimp only
          exact HSx.out _ ((Below.refl _ _).drew)
        refine wpAnyH_take (i := 0) (oi := ⟨some 43, _, _, _, _, _⟩) (v := ?_) rfl (by kernel_rfl) (by kernel_rfl) (by kernel_rfl) (fun _ _ _ h => h) (Or.inl ⟨by rfl, ?_⟩) (by assumption) ?_
        rotate_left
        · intro w hSw
          try dsimp only at hSw
          go_simp
          try with_reducible rfl
        simp only [Act.put, List.setIfInBounds_toArray, List.set_cons_zero, List.set_cons_succ]
        refine wpAnyH_take (i := 1) (oi := ⟨some 44, _, _, _, _, _⟩) (v := ?_) rfl (by kernel_rfl) (by kernel_rfl) (by kernel_rfl) (fun _ _ _ h => h) (Or.inl ⟨by rfl, ?_⟩) (by assumption) ?_
        rotate_left
        · intro w hSw
          try dsimp only at hSw
          go_simp
          try with_reducible rfl
        simp only [Act.put, List.setIfInBounds_toArray, List.set_cons_zero, List.set_cons_succ]
        refine wpAnyH_ready (rs := [2]) (by kernel_rfl) (by simp) ?_
        refine AllReadyH.cons rfl (fun K hK => ?_) AllReadyH.nil
        go_simp
        go_wp2_with (first | (go_at_call 9; refine (HSm.out _ A3 C3 b d (oR_w5.out.row.later (hHeld.2.2.2.2.2.2)) (oD_w5.out.row.later (hHeld.2.2.2.2.2.2))).mono ?_; rintro e w6 ⟨rfl, hb6⟩; have b6 := (hHeld.2.2.2.2.2.2).trans (hb6.mono (hHeld.2.2.2.2.2.2).size)))
        refine hK.out _ _ ?_ (fun hHeld => ?_)
        · try dsimp only
          exact HSx.out _ b6
        clear hK K
        refine wpAnyH_take (i := 3) (oi := ⟨some 46, _, _, _, _, _⟩) (v := ?_) rfl (by kernel_rfl) (by kernel_rfl) (by kernel_rfl) (fun _ _ _ h => h) (Or.inl ⟨by rfl, ?_⟩) (by assumption) ?_
        rotate_left
        · intro w hSw
          try dsimp only at hSw
          go_simp
          try with_reducible rfl
        simp only [Act.put, List.setIfInBounds_toArray, List.set_cons_zero, List.set_cons_succ]
        refine wpAnyH_take (i := 4) (oi := ⟨some 47, _, _, _, _, _⟩) (v := ?_) rfl (by kernel_rfl) (by kernel_rfl) (by kernel_rfl) (fun _ _ _ h => h) (Or.inl ⟨by rfl, ?_⟩) (by assumption) ?_
        rotate_left
        · intro w hSw
          try dsimp only at hSw
          go_simp
          try with_reducible rfl
        simp only [Act.put, List.setIfInBounds_toArray, List.set_cons_zero, List.set_cons_succ]
        refine wpAnyH_take (i := 5) (oi := ⟨some 48, _, _, _, _, _⟩) (v := ?_) rfl (by kernel_rfl) (by kernel_rfl) (by kernel_rfl) (fun _ _ _ h => h) (Or.inl ⟨by rfl, ?_⟩) (by assumption) ?_
        rotate_left
        · intro w hSw
          try dsimp only at hSw
          go_simp
          try with_reducible rfl
        simp only [Act.put, List.setIfInBounds_toArray, List.set_cons_zero, List.set_cons_succ]
        refine wpAnyH_take (i := 6) (oi := ⟨some 49, _, _, _, _, _⟩) (v := ?_) rfl (by kernel_rfl) (by kernel_rfl) (by kernel_rfl) (fun _ _ _ h => h) (Or.inl ⟨by rfl, ?_⟩) (by assumption) ?_
        rotate_left
        · intro w hSw
          try dsimp only at hSw
          go_simp
          try with_reducible rfl
        simp only [Act.put, List.setIfInBounds_toArray, List.set_cons_zero, List.set_cons_succ]
        refine wpAnyH_take (i := 7) (oi := ⟨some 50, _, _, _, _, _⟩) (v := ?_) rfl (by kernel_rfl) (by kernel_rfl) (by kernel_rfl) (fun _ _ _ h => h) (Or.inl ⟨by rfl, ?_⟩) (by assumption) ?_
        rotate_left
        · intro w hSw
          try dsimp only at hSw
          go_simp
          try with_reducible rfl
        simp only [Act.put, List.setIfInBounds_toArray, List.set_cons_zero, List.set_cons_succ]
        refine wpAnyH_take (i := 8) (oi := ⟨some 51, _, _, _, _, _⟩) (v := ?_) rfl (by kernel_rfl) (by kernel_rfl) (by kernel_rfl) (fun _ _ _ h => h) (Or.inl ⟨by rfl, ?_⟩) (by assumption) ?_
        rotate_left
        · intro w hSw
          try dsimp only at hSw
          go_simp
          try with_reducible rfl
        simp only [Act.put, List.setIfInBounds_toArray, List.set_cons_zero, List.set_cons_succ]
        refine wpAnyH_take (i := 9) (oi := ⟨some 52, _, _, _, _, _⟩) (v := ?_) rfl (by kernel_rfl) (by kernel_rfl) (by kernel_rfl) (fun _ _ _ h => h) (Or.inl ⟨by rfl, ?_⟩) (by assumption) ?_
        rotate_left
        · intro w hSw
          try dsimp only at hSw
          go_simp
          try with_reducible rfl
        simp only [Act.put, List.setIfInBounds_toArray, List.set_cons_zero, List.set_cons_succ]
        refine wpAnyH_take (i := 11) (oi := ⟨some 54, _, _, _, _, _⟩) (v := ?_) rfl (by kernel_rfl) (by kernel_rfl) (by kernel_rfl) (fun _ _ _ h => h) (Or.inl ⟨by rfl, ?_⟩) (by assumption) ?_
        rotate_left
        · intro w hSw
          try dsimp only at hSw
          go_simp
          try with_reducible rfl
        simp only [Act.put, List.setIfInBounds_toArray, List.set_cons_zero, List.set_cons_succ]
        refine wpAnyH_ready (rs := [10]) (by kernel_rfl) (by simp) ?_
        refine AllReadyH.cons rfl (fun K hK => ?_) AllReadyH.nil
        go_simp
        go_wp2_with (first | (go_at_call 13; refine (HIo.out _ b d (oD_w5.out.row.later (hHeld.2.2.2.2.2.2))).mono ?_; rintro e w7 ⟨rfl, hb7⟩; have b7 := (hHeld.2.2.2.2.2.2).trans (hb7.mono (hHeld.2.2.2.2.2.2).size)))
        refine hK.out _ _ ?_ (fun hHeld => ?_)
        · try dsimp only
          exact HSx.out _ b7
        clear hK K
        refine wpAnyH_ready (rs := [12]) (by kernel_rfl) (by simp) ?_
        refine AllReadyH.cons rfl (fun K hK => ?_) AllReadyH.nil
        go_simp
        go_wp2_with (first | (go_at_call 16; refine (HSo.out _ b d (oD_w5.out.row.later (hHeld.2.2.2.2.2.2))).mono ?_; rintro e w8 ⟨rfl, hb8⟩; have b8 := (hHeld.2.2.2.2.2.2).trans (hb8.mono (hHeld.2.2.2.2.2.2).size)))
        refine hK.out _ _ ?_ (fun hHeld => ?_)
        · try dsimp only
          exact HSx.out _ b8
        clear hK K
        refine wpAnyH_take (i := 13) (oi := ⟨some 56, _, _, _, _, _⟩) (v := ?_) rfl (by kernel_rfl) (by kernel_rfl) (by kernel_rfl) (fun _ _ _ h => h) (Or.inl ⟨by rfl, ?_⟩) (by assumption) ?_
        rotate_left
        · intro w hSw
          try dsimp only at hSw
          go_simp
          try with_reducible rfl
        simp only [Act.put, List.setIfInBounds_toArray, List.set_cons_zero, List.set_cons_succ]
        refine wpAnyH_take (i := 14) (oi := ⟨some 57, _, _, _, _, _⟩) (v := ?_) rfl (by kernel_rfl) (by kernel_rfl) (by kernel_rfl) (fun _ _ _ h => h) (Or.inl ⟨by rfl, ?_⟩) (by assumption) ?_
        rotate_left
        · intro w hSw
          try dsimp only at hSw
          go_simp
          try with_reducible rfl
        simp only [Act.put, List.setIfInBounds_toArray, List.set_cons_zero, List.set_cons_succ]
        refine wpAnyH_take (i := 15) (oi := ⟨some 2, _, _, _, _, _⟩) (v := ?_) rfl (by kernel_rfl) (by kernel_rfl) (by kernel_rfl) (fun _ _ _ h => h) (Or.inl ⟨by rfl, ?_⟩) (by assumption) ?_
        rotate_left
        · intro w hSw
          try dsimp only at hSw
          go_simp
          try with_reducible rfl
        simp only [Act.put, List.setIfInBounds_toArray, List.set_cons_zero, List.set_cons_succ]
        have HE := hidP (hHeld.2.2.2.2.2.2)
        refine wpAnyH_done (by kernel_rfl) ?_ _
        clear hHeld
        go_wp2_with fail
        go_ret
        exact ⟨rfl, acc_w5.out.trans (HE.out.mono acc_w5.out.size)⟩
  · have hr' := hr
    simp only [Bool.and_eq_true, decide_eq_true_eq] at hr'
    obtain ⟨hb, hN, h9⟩ := hr'
    have e1 : decide (u ≤ N) = false := decide_eq_false (by omega)
    have e2 : decide (1000000000 < u) = false := decide_eq_false (by omega)
    have HLp := hidP (len_parts u ls)
    have HbS := hidP (bk_stay hb (Int.le_of_lt hN) h9)
    have HTm := hidP (fun i q hq => timeC n K N ls i q hq HN.out (by omega) HS.out hb)
    have HSt := hidP (fun n2 hn2 hl2 i q hq => stayC K N ls u n2 i q hq hn2 hl2 HS.out hb hN h9)
    have HSo := hidP (fun W a c e1 => sBookOk_any a n c K N ls W HN.out e1 (by omega) HS.out)
    rw [hb] at HSo
    have HNw : Hid (0 ≤ N ∧ N ≤ 1000000000) := hidP (bk_iff.1 hb).2.2.1
    have HAd := hidP (iAdv_yes b n d K N ls _ HN.out oD_W2.out.row (by omega) HS.out u hr)
    have HSS : Hid (∀ q ∈ stayL u ls, q.t.size ≤ 9223372036854775807) := hidP (fun q hq => HS.out q (List.mem_filter.1 hq).1)
    obtain ⟨SL, hSL⟩ : ∃ S, S = stayL u ls := ⟨_, rfl⟩
    obtain ⟨nS, hnS⟩ : ∃ m, m = SL.length := ⟨_, rfl⟩
    obtain ⟨nG, hnG⟩ : ∃ m, m = (goneL u ls).length := ⟨_, rfl⟩
    rw [← hSL] at HLp HbS HAd HSt HSS
    rw [← hnS] at HLp HAd
    rw [← hnG] at HLp HAd
    have hSn : nS + nG = n := by have := HLp.out; have := HN.out; omega
    have hw1 : IntKind.i64.wrap ((nS : Int) + (nG : Int)) = (n : Int) := by rw [IntKind.wrap_i64]; omega
    have HIo := hidP (fun W a c e1 => iBookOk_any a nS c K u SL W hnS e1 (by omega) HSS.out)
    rw [HbS.out] at HIo
    have HSt' := hidP (fun i q hq => HSt.out nS hnS (by omega) i q hq)
    have HnS := hidP hnS
    clear hr hb HLp HbS HSt hSL hnS hnG HSS
    refine (HAd.out).mono ?_
    rintro e w3 ⟨A3, C3, B3, D3, rfl, oR, oG, hne3, hb3⟩
    have OR := hidP oR
    clear oR oG hne3 HAd
    have bd0_w3 := (hb3.cell bdL_W2).trans bd0_W2
    have bd1_w3 := (hb3.cell bdL_W2).trans bd1_W2
    have bd2_w3 := (hb3.cell bdL_W2).trans bd2_W2
    have bdF_w3 : ∀ o, w3.frozen? ⟨w1.heap.size, o, none⟩ = false := fun o => (hb3.frozen bdL_W2).trans (bdF_W2 o)
    have bdL_w3 : w1.heap.size < w3.heap.size := Nat.lt_of_lt_of_le bdL_W2 hb3.size
    have oD_w3 := hidP (OwnG.later oD_W2.out hb3)
    have acc_w3 := hidP (acc_W2.out.trans (hb3.mono acc_W2.out.size))
    have sz_w3 : Hid (W2.heap.size ≤ w3.heap.size) := hidP hb3.size
    clear hb3 bd0_W2 bd1_W2 bd2_W2 bdF_W2 bdL_W2 oD_W2 acc_W2
    have oR_w3 := hidP (OR.out)
    have lhR : Hid (∀ k, (Value.slice A3 nS C3).ownBlock = some k → W2.heap.size ≤ k ∧ k < w3.heap.size) := hidP (fun k hk => OwnG.lt oR_w3.out k hk)
    clear OR
    go_wp2_with fail
    obtain ⟨bn0_W4, bn1_W4, bn2_W4⟩ := box3B w3 26 (.slice A3 nS C3) (.int .i64 K) (.int .i64 u)
    have bnF_W4 : ∀ o, (w3.alloc (.cells #[.slice A3 nS C3, .int .i64 K, .int .i64 u] 26)).frozen? ⟨w3.heap.size, o, none⟩ = false := fun o => by simp [go_sem]
    have bnL_W4 : w3.heap.size < (w3.alloc (.cells #[.slice A3 nS C3, .int .i64 K, .int .i64 u] 26)).heap.size := by simp
    have ab_W4 := alloc_below w3 (.cells #[.slice A3 nS C3, .int .i64 K, .int .i64 u] 26)
    have as_W4 : Hid ((w3.alloc (.cells #[.slice A3 nS C3, .int .i64 K, .int .i64 u] 26)).heap.size = w3.heap.size + 1) := hidP (by simp)
    generalize w3.alloc (.cells #[.slice A3 nS C3, .int .i64 K, .int .i64 u] 26) = W4 at *
    have bd0_W4 := (ab_W4.cell bdL_w3).trans bd0_w3
    have bd1_W4 := (ab_W4.cell bdL_w3).trans bd1_w3
    have bd2_W4 := (ab_W4.cell bdL_w3).trans bd2_w3
    have bdF_W4 : ∀ o, W4.frozen? ⟨w1.heap.size, o, none⟩ = false := fun o => (ab_W4.frozen bdL_w3).trans (bdF_w3 o)
    have bdL_W4 : w1.heap.size < W4.heap.size := Nat.lt_of_lt_of_le bdL_w3 ab_W4.size
    have oD_W4 := hidP (OwnG.later oD_w3.out ab_W4)
    have oR_W4 := hidP (OwnG.later oR_w3.out ab_W4)
    have acc_W4 := hidP (acc_w3.out.trans (ab_W4.mono acc_w3.out.size))
    have sz_W4 : Hid (w3.heap.size ≤ W4.heap.size) := hidP ab_W4.size
    clear ab_W4 bd0_w3 bd1_w3 bd2_w3 bdF_w3 bdL_w3 oD_w3 oR_w3 acc_w3
    refine (HSo.out _ b d oD_W4.out.row).mono ?_
    rintro e w5 ⟨rfl, hb5⟩
    have bd0_w5 := (hb5.cell bdL_W4).trans bd0_W4
    have bd1_w5 := (hb5.cell bdL_W4).trans bd1_W4
    have bd2_w5 := (hb5.cell bdL_W4).trans bd2_W4
    have bdF_w5 : ∀ o, w5.frozen? ⟨w1.heap.size, o, none⟩ = false := fun o => (hb5.frozen bdL_W4).trans (bdF_W4 o)
    have bdL_w5 : w1.heap.size < w5.heap.size := Nat.lt_of_lt_of_le bdL_W4 hb5.size
    have bn0_w5 := (hb5.cell bnL_W4).trans bn0_W4
    have bn1_w5 := (hb5.cell bnL_W4).trans bn1_W4
    have bn2_w5 := (hb5.cell bnL_W4).trans bn2_W4
    have bnF_w5 : ∀ o, w5.frozen? ⟨w3.heap.size, o, none⟩ = false := fun o => (hb5.frozen bnL_W4).trans (bnF_W4 o)
    have bnL_w5 : w3.heap.size < w5.heap.size := Nat.lt_of_lt_of_le bnL_W4 hb5.size
    have oD_w5 := hidP (OwnG.later oD_W4.out hb5)
    have oR_w5 := hidP (OwnG.later oR_W4.out hb5)
    have acc_w5 := hidP (acc_W4.out.trans (hb5.mono acc_W4.out.size))
    have sz_w5 : Hid (W4.heap.size ≤ w5.heap.size) := hidP hb5.size
    clear hb5 bd0_W4 bd1_W4 bd2_W4 bdF_W4 bdL_W4 bn0_W4 bn1_W4 bn2_W4 bnF_W4 bnL_W4 oD_W4 oR_W4 acc_W4
    go_wp2_with fail
    refine (HIo.out _ A3 C3 oR_w5.out.row).mono ?_
    rintro e w6 ⟨rfl, hb6⟩
    have bd0_w6 := (hb6.cell bdL_w5).trans bd0_w5
    have bd1_w6 := (hb6.cell bdL_w5).trans bd1_w5
    have bd2_w6 := (hb6.cell bdL_w5).trans bd2_w5
    have bdF_w6 : ∀ o, w6.frozen? ⟨w1.heap.size, o, none⟩ = false := fun o => (hb6.frozen bdL_w5).trans (bdF_w5 o)
    have bdL_w6 : w1.heap.size < w6.heap.size := Nat.lt_of_lt_of_le bdL_w5 hb6.size
    have bn0_w6 := (hb6.cell bnL_w5).trans bn0_w5
    have bn1_w6 := (hb6.cell bnL_w5).trans bn1_w5
    have bn2_w6 := (hb6.cell bnL_w5).trans bn2_w5
    have bnF_w6 : ∀ o, w6.frozen? ⟨w3.heap.size, o, none⟩ = false := fun o => (hb6.frozen bnL_w5).trans (bnF_w5 o)
    have bnL_w6 : w3.heap.size < w6.heap.size := Nat.lt_of_lt_of_le bnL_w5 hb6.size
    have oD_w6 := hidP (OwnG.later oD_w5.out hb6)
    have oR_w6 := hidP (OwnG.later oR_w5.out hb6)
    have acc_w6 := hidP (acc_w5.out.trans (hb6.mono acc_w5.out.size))
    have sz_w6 : Hid (w5.heap.size ≤ w6.heap.size) := hidP hb6.size
    clear hb6 bd0_w5 bd1_w5 bd2_w5 bdF_w5 bdL_w5 bn0_w5 bn1_w5 bn2_w5 bnF_w5 bnL_w5 oD_w5 oR_w5 acc_w5
    clear HSo HIo
    go_wp2_with fail
    go_loopw [7, 8, 9, 10, 11, 12, 13, 14, 15, 16] (fun t7 _ _ _ _ _ _ _ _ _ wr => ∃ i : Nat, t7 = .int .i64 i ∧ i ≤ n ∧ Below w6.heap.size w6 wr) (fun t7 _ _ _ _ _ _ _ _ _ _ => n - (intOf t7).toNat)
    case atStart => exact ⟨0, rfl, Nat.zero_le _, Below.refl _ _⟩
    case round =>
      obtain ⟨i, rfl, hi, hbel⟩ := hrel
      have six_wr := hidP hbel
      have bd0_wr := (hbel.cell bdL_w6).trans bd0_w6
      have bd1_wr := (hbel.cell bdL_w6).trans bd1_w6
      have bd2_wr := (hbel.cell bdL_w6).trans bd2_w6
      have bdF_wr : ∀ o, wr.frozen? ⟨w1.heap.size, o, none⟩ = false := fun o => (hbel.frozen bdL_w6).trans (bdF_w6 o)
      have bdL_wr : w1.heap.size < wr.heap.size := Nat.lt_of_lt_of_le bdL_w6 hbel.size
      have bn0_wr := (hbel.cell bnL_w6).trans bn0_w6
      have bn1_wr := (hbel.cell bnL_w6).trans bn1_w6
      have bn2_wr := (hbel.cell bnL_w6).trans bn2_w6
      have bnF_wr : ∀ o, wr.frozen? ⟨w3.heap.size, o, none⟩ = false := fun o => (hbel.frozen bnL_w6).trans (bnF_w6 o)
      have bnL_wr : w3.heap.size < wr.heap.size := Nat.lt_of_lt_of_le bnL_w6 hbel.size
      have oD_wr := hidP (OwnG.later oD_w6.out hbel)
      have oR_wr := hidP (OwnG.later oR_w6.out hbel)
      have acc_wr := hidP (acc_w6.out.trans (hbel.mono acc_w6.out.size))
      have sz_wr : Hid (w6.heap.size ≤ wr.heap.size) := hidP hbel.size
      clear hbel bd0_w6 bd1_w6 bd2_w6 bdF_w6 bdL_w6 bn0_w6 bn1_w6 bn2_w6 bnF_w6 bnL_w6 oD_w6 oR_w6 acc_w6
      by_cases hlt : i < n
      · obtain ⟨p, o, q, hbp, hp, hq, c0, c1, c2, c3, c4, c5⟩ := rowLs oD_wr.out.row i (by have := HN.out; omega)
        obtain ⟨S2, C2, hH1, hC2⟩ := HSt'.out i q hq
        obtain ⟨LS, D, L2, n2, N2, S3, E, hR, hA, hH, hfin⟩ := HTm.out i q hq
        have HH1 := hidP hH1
        have HR := hidP hR
        have HA := hidP hA
        have HH := hidP hH
        have HFin := hidP hfin
        obtain ⟨B, hB2⟩ : ∃ B, B = decide (u < q.u) := ⟨_, rfl⟩
        rw [← hB2] at hC2
        have hB3 := hB2.symm
        have i0 : (0 : Int) ≤ (i : Int) := by omega
        have i1 : (i : Int) < (n : Int) := by omega
        have wN : IntKind.i64.wrap (N + 1000) = N + 1000 := by have := HNw.out; rw [IntKind.wrap_i64]; omega
        subst hbp
        clear hH1 hR hA hH hfin hq hB2
        go_wp2_with fail
        clear c0 c1 c2 c3 c4 c5 hp
        obtain ⟨bx0_Wx, bx1_Wx, bx2_Wx, bx3_Wx, bx4_Wx, bx5_Wx⟩ := box6T wr 35 (.bool q.a.s) (.int .i64 q.a.H.toInt) (.int .i64 q.a.L.toInt) (.string q.t) (.int .i64 q.k) (.int .i64 q.u)
        have bxF_Wx : ∀ o, (wr.alloc (.cells #[.bool q.a.s, .int .i64 q.a.H.toInt, .int .i64 q.a.L.toInt, .string q.t, .int .i64 q.k, .int .i64 q.u] 35)).frozen? ⟨wr.heap.size, o, none⟩ = false := fun o => by simp [go_sem]
        have bxL_Wx : wr.heap.size < (wr.alloc (.cells #[.bool q.a.s, .int .i64 q.a.H.toInt, .int .i64 q.a.L.toInt, .string q.t, .int .i64 q.k, .int .i64 q.u] 35)).heap.size := by simp
        have ab_Wx := alloc_below wr (.cells #[.bool q.a.s, .int .i64 q.a.H.toInt, .int .i64 q.a.L.toInt, .string q.t, .int .i64 q.k, .int .i64 q.u] 35)
        have as_Wx : Hid ((wr.alloc (.cells #[.bool q.a.s, .int .i64 q.a.H.toInt, .int .i64 q.a.L.toInt, .string q.t, .int .i64 q.k, .int .i64 q.u] 35)).heap.size = wr.heap.size + 1) := hidP (by simp)
        generalize wr.alloc (.cells #[.bool q.a.s, .int .i64 q.a.H.toInt, .int .i64 q.a.L.toInt, .string q.t, .int .i64 q.k, .int .i64 q.u] 35) = Wx at *
        have six_Wx := hidP (six_wr.out.trans (ab_Wx.mono six_wr.out.size))
        clear six_wr
        have bd0_Wx := (ab_Wx.cell bdL_wr).trans bd0_wr
        have bd1_Wx := (ab_Wx.cell bdL_wr).trans bd1_wr
        have bd2_Wx := (ab_Wx.cell bdL_wr).trans bd2_wr
        have bdF_Wx : ∀ o, Wx.frozen? ⟨w1.heap.size, o, none⟩ = false := fun o => (ab_Wx.frozen bdL_wr).trans (bdF_wr o)
        have bdL_Wx : w1.heap.size < Wx.heap.size := Nat.lt_of_lt_of_le bdL_wr ab_Wx.size
        have bn0_Wx := (ab_Wx.cell bnL_wr).trans bn0_wr
        have bn1_Wx := (ab_Wx.cell bnL_wr).trans bn1_wr
        have bn2_Wx := (ab_Wx.cell bnL_wr).trans bn2_wr
        have bnF_Wx : ∀ o, Wx.frozen? ⟨w3.heap.size, o, none⟩ = false := fun o => (ab_Wx.frozen bnL_wr).trans (bnF_wr o)
        have bnL_Wx : w3.heap.size < Wx.heap.size := Nat.lt_of_lt_of_le bnL_wr ab_Wx.size
        have oD_Wx := hidP (OwnG.later oD_wr.out ab_Wx)
        have oR_Wx := hidP (OwnG.later oR_wr.out ab_Wx)
        have acc_Wx := hidP (acc_wr.out.trans (ab_Wx.mono acc_wr.out.size))
        have sz_Wx : Hid (wr.heap.size ≤ Wx.heap.size) := hidP ab_Wx.size
        clear ab_Wx bd0_wr bd1_wr bd2_wr bdF_wr bdL_wr bn0_wr bn1_wr bn2_wr bnF_wr bnL_wr oD_wr oR_wr acc_wr
        refine (HH1.out _ A3 C3 oR_Wx.out.row (HGl.out.later acc_Wx.out)).mono ?_
        rintro e w7 ⟨rfl, hb7⟩
        have six_w7 := hidP (six_Wx.out.trans (hb7.mono six_Wx.out.size))
        clear six_Wx
        have bd0_w7 := (hb7.cell bdL_Wx).trans bd0_Wx
        have bd1_w7 := (hb7.cell bdL_Wx).trans bd1_Wx
        have bd2_w7 := (hb7.cell bdL_Wx).trans bd2_Wx
        have bdF_w7 : ∀ o, w7.frozen? ⟨w1.heap.size, o, none⟩ = false := fun o => (hb7.frozen bdL_Wx).trans (bdF_Wx o)
        have bdL_w7 : w1.heap.size < w7.heap.size := Nat.lt_of_lt_of_le bdL_Wx hb7.size
        have bn0_w7 := (hb7.cell bnL_Wx).trans bn0_Wx
        have bn1_w7 := (hb7.cell bnL_Wx).trans bn1_Wx
        have bn2_w7 := (hb7.cell bnL_Wx).trans bn2_Wx
        have bnF_w7 : ∀ o, w7.frozen? ⟨w3.heap.size, o, none⟩ = false := fun o => (hb7.frozen bnL_Wx).trans (bnF_Wx o)
        have bnL_w7 : w3.heap.size < w7.heap.size := Nat.lt_of_lt_of_le bnL_Wx hb7.size
        have bx0_w7 := (hb7.cell bxL_Wx).trans bx0_Wx
        have bx1_w7 := (hb7.cell bxL_Wx).trans bx1_Wx
        have bx2_w7 := (hb7.cell bxL_Wx).trans bx2_Wx
        have bx3_w7 := (hb7.cell bxL_Wx).trans bx3_Wx
        have bx4_w7 := (hb7.cell bxL_Wx).trans bx4_Wx
        have bx5_w7 := (hb7.cell bxL_Wx).trans bx5_Wx
        have bxF_w7 : ∀ o, w7.frozen? ⟨wr.heap.size, o, none⟩ = false := fun o => (hb7.frozen bxL_Wx).trans (bxF_Wx o)
        have bxL_w7 : wr.heap.size < w7.heap.size := Nat.lt_of_lt_of_le bxL_Wx hb7.size
        have oD_w7 := hidP (OwnG.later oD_Wx.out hb7)
        have oR_w7 := hidP (OwnG.later oR_Wx.out hb7)
        have acc_w7 := hidP (acc_Wx.out.trans (hb7.mono acc_Wx.out.size))
        have sz_w7 : Hid (Wx.heap.size ≤ w7.heap.size) := hidP hb7.size
        clear hb7 bd0_Wx bd1_Wx bd2_Wx bdF_Wx bdL_Wx bn0_Wx bn1_Wx bn2_Wx bnF_Wx bnL_Wx bx0_Wx bx1_Wx bx2_Wx bx3_Wx bx4_Wx bx5_Wx bxF_Wx bxL_Wx oD_Wx oR_Wx acc_Wx
        clear HH1
        go_wp2_with fail
        refine (HR.out _ _ d oD_w7.out.row (HGl.out.later acc_w7.out)).mono ?_
        rintro e w8 ⟨A8, C8, rfl, oL, hb8⟩
        have OL := hidP oL
        clear oL HR
        have six_w8 := hidP (six_w7.out.trans (hb8.mono six_w7.out.size))
        clear six_w7
        have bd0_w8 := (hb8.cell bdL_w7).trans bd0_w7
        have bd1_w8 := (hb8.cell bdL_w7).trans bd1_w7
        have bd2_w8 := (hb8.cell bdL_w7).trans bd2_w7
        have bdF_w8 : ∀ o, w8.frozen? ⟨w1.heap.size, o, none⟩ = false := fun o => (hb8.frozen bdL_w7).trans (bdF_w7 o)
        have bdL_w8 : w1.heap.size < w8.heap.size := Nat.lt_of_lt_of_le bdL_w7 hb8.size
        have bn0_w8 := (hb8.cell bnL_w7).trans bn0_w7
        have bn1_w8 := (hb8.cell bnL_w7).trans bn1_w7
        have bn2_w8 := (hb8.cell bnL_w7).trans bn2_w7
        have bnF_w8 : ∀ o, w8.frozen? ⟨w3.heap.size, o, none⟩ = false := fun o => (hb8.frozen bnL_w7).trans (bnF_w7 o)
        have bnL_w8 : w3.heap.size < w8.heap.size := Nat.lt_of_lt_of_le bnL_w7 hb8.size
        have bx0_w8 := (hb8.cell bxL_w7).trans bx0_w7
        have bx1_w8 := (hb8.cell bxL_w7).trans bx1_w7
        have bx2_w8 := (hb8.cell bxL_w7).trans bx2_w7
        have bx3_w8 := (hb8.cell bxL_w7).trans bx3_w7
        have bx4_w8 := (hb8.cell bxL_w7).trans bx4_w7
        have bx5_w8 := (hb8.cell bxL_w7).trans bx5_w7
        have bxF_w8 : ∀ o, w8.frozen? ⟨wr.heap.size, o, none⟩ = false := fun o => (hb8.frozen bxL_w7).trans (bxF_w7 o)
        have bxL_w8 : wr.heap.size < w8.heap.size := Nat.lt_of_lt_of_le bxL_w7 hb8.size
        have oD_w8 := hidP (OwnG.later oD_w7.out hb8)
        have oR_w8 := hidP (OwnG.later oR_w7.out hb8)
        have acc_w8 := hidP (acc_w7.out.trans (hb8.mono acc_w7.out.size))
        have sz_w8 : Hid (w7.heap.size ≤ w8.heap.size) := hidP hb8.size
        clear hb8 bd0_w7 bd1_w7 bd2_w7 bdF_w7 bdL_w7 bn0_w7 bn1_w7 bn2_w7 bnF_w7 bnL_w7 bx0_w7 bx1_w7 bx2_w7 bx3_w7 bx4_w7 bx5_w7 bxF_w7 bxL_w7 oD_w7 oR_w7 acc_w7
        have oL_w8 := hidP (OL.out)
        have lhL : Hid (∀ k, (Value.slice A8 n C8).ownBlock = some k → w7.heap.size ≤ k ∧ k < w8.heap.size) := hidP (fun k hk => OwnG.lt oL_w8.out k hk)
        clear OL
        go_wp2_with fail
        obtain ⟨lo0_W9, lo1_W9, lo2_W9⟩ := box3B w8 26 (.slice A8 n C8) (.int .i64 K) (.int .i64 N)
        have loF_W9 : ∀ o, (w8.alloc (.cells #[.slice A8 n C8, .int .i64 K, .int .i64 N] 26)).frozen? ⟨w8.heap.size, o, none⟩ = false := fun o => by simp [go_sem]
        have loL_W9 : w8.heap.size < (w8.alloc (.cells #[.slice A8 n C8, .int .i64 K, .int .i64 N] 26)).heap.size := by simp
        have ab_W9 := alloc_below w8 (.cells #[.slice A8 n C8, .int .i64 K, .int .i64 N] 26)
        have as_W9 : Hid ((w8.alloc (.cells #[.slice A8 n C8, .int .i64 K, .int .i64 N] 26)).heap.size = w8.heap.size + 1) := hidP (by simp)
        generalize w8.alloc (.cells #[.slice A8 n C8, .int .i64 K, .int .i64 N] 26) = W9 at *
        have six_W9 := hidP (six_w8.out.trans (ab_W9.mono six_w8.out.size))
        clear six_w8
        have bd0_W9 := (ab_W9.cell bdL_w8).trans bd0_w8
        have bd1_W9 := (ab_W9.cell bdL_w8).trans bd1_w8
        have bd2_W9 := (ab_W9.cell bdL_w8).trans bd2_w8
        have bdF_W9 : ∀ o, W9.frozen? ⟨w1.heap.size, o, none⟩ = false := fun o => (ab_W9.frozen bdL_w8).trans (bdF_w8 o)
        have bdL_W9 : w1.heap.size < W9.heap.size := Nat.lt_of_lt_of_le bdL_w8 ab_W9.size
        have bn0_W9 := (ab_W9.cell bnL_w8).trans bn0_w8
        have bn1_W9 := (ab_W9.cell bnL_w8).trans bn1_w8
        have bn2_W9 := (ab_W9.cell bnL_w8).trans bn2_w8
        have bnF_W9 : ∀ o, W9.frozen? ⟨w3.heap.size, o, none⟩ = false := fun o => (ab_W9.frozen bnL_w8).trans (bnF_w8 o)
        have bnL_W9 : w3.heap.size < W9.heap.size := Nat.lt_of_lt_of_le bnL_w8 ab_W9.size
        have bx0_W9 := (ab_W9.cell bxL_w8).trans bx0_w8
        have bx1_W9 := (ab_W9.cell bxL_w8).trans bx1_w8
        have bx2_W9 := (ab_W9.cell bxL_w8).trans bx2_w8
        have bx3_W9 := (ab_W9.cell bxL_w8).trans bx3_w8
        have bx4_W9 := (ab_W9.cell bxL_w8).trans bx4_w8
        have bx5_W9 := (ab_W9.cell bxL_w8).trans bx5_w8
        have bxF_W9 : ∀ o, W9.frozen? ⟨wr.heap.size, o, none⟩ = false := fun o => (ab_W9.frozen bxL_w8).trans (bxF_w8 o)
        have bxL_W9 : wr.heap.size < W9.heap.size := Nat.lt_of_lt_of_le bxL_w8 ab_W9.size
        have oD_W9 := hidP (OwnG.later oD_w8.out ab_W9)
        have oR_W9 := hidP (OwnG.later oR_w8.out ab_W9)
        have oL_W9 := hidP (OwnG.later oL_w8.out ab_W9)
        have acc_W9 := hidP (acc_w8.out.trans (ab_W9.mono acc_w8.out.size))
        have sz_W9 : Hid (w8.heap.size ≤ W9.heap.size) := hidP ab_W9.size
        clear ab_W9 bd0_w8 bd1_w8 bd2_w8 bdF_w8 bdL_w8 bn0_w8 bn1_w8 bn2_w8 bnF_w8 bnL_w8 bx0_w8 bx1_w8 bx2_w8 bx3_w8 bx4_w8 bx5_w8 bxF_w8 bxL_w8 oD_w8 oR_w8 oL_w8 acc_w8
        refine (HA.out _ A8 C8 oL_W9.out.row).mono ?_
        rintro e w10 ⟨A10, C10, v10, rfl, oM, hb10⟩
        have OM := hidP oM
        clear oM HA
        have six_w10 := hidP (six_W9.out.trans (hb10.mono six_W9.out.size))
        clear six_W9
        have bd0_w10 := (hb10.cell bdL_W9).trans bd0_W9
        have bd1_w10 := (hb10.cell bdL_W9).trans bd1_W9
        have bd2_w10 := (hb10.cell bdL_W9).trans bd2_W9
        have bdF_w10 : ∀ o, w10.frozen? ⟨w1.heap.size, o, none⟩ = false := fun o => (hb10.frozen bdL_W9).trans (bdF_W9 o)
        have bdL_w10 : w1.heap.size < w10.heap.size := Nat.lt_of_lt_of_le bdL_W9 hb10.size
        have bn0_w10 := (hb10.cell bnL_W9).trans bn0_W9
        have bn1_w10 := (hb10.cell bnL_W9).trans bn1_W9
        have bn2_w10 := (hb10.cell bnL_W9).trans bn2_W9
        have bnF_w10 : ∀ o, w10.frozen? ⟨w3.heap.size, o, none⟩ = false := fun o => (hb10.frozen bnL_W9).trans (bnF_W9 o)
        have bnL_w10 : w3.heap.size < w10.heap.size := Nat.lt_of_lt_of_le bnL_W9 hb10.size
        have bx0_w10 := (hb10.cell bxL_W9).trans bx0_W9
        have bx1_w10 := (hb10.cell bxL_W9).trans bx1_W9
        have bx2_w10 := (hb10.cell bxL_W9).trans bx2_W9
        have bx3_w10 := (hb10.cell bxL_W9).trans bx3_W9
        have bx4_w10 := (hb10.cell bxL_W9).trans bx4_W9
        have bx5_w10 := (hb10.cell bxL_W9).trans bx5_W9
        have bxF_w10 : ∀ o, w10.frozen? ⟨wr.heap.size, o, none⟩ = false := fun o => (hb10.frozen bxL_W9).trans (bxF_W9 o)
        have bxL_w10 : wr.heap.size < w10.heap.size := Nat.lt_of_lt_of_le bxL_W9 hb10.size
        have lo0_w10 := (hb10.cell loL_W9).trans lo0_W9
        have lo1_w10 := (hb10.cell loL_W9).trans lo1_W9
        have lo2_w10 := (hb10.cell loL_W9).trans lo2_W9
        have loF_w10 : ∀ o, w10.frozen? ⟨w8.heap.size, o, none⟩ = false := fun o => (hb10.frozen loL_W9).trans (loF_W9 o)
        have loL_w10 : w8.heap.size < w10.heap.size := Nat.lt_of_lt_of_le loL_W9 hb10.size
        have oD_w10 := hidP (OwnG.later oD_W9.out hb10)
        have oR_w10 := hidP (OwnG.later oR_W9.out hb10)
        have oL_w10 := hidP (OwnG.later oL_W9.out hb10)
        have acc_w10 := hidP (acc_W9.out.trans (hb10.mono acc_W9.out.size))
        have sz_w10 : Hid (W9.heap.size ≤ w10.heap.size) := hidP hb10.size
        clear hb10 bd0_W9 bd1_W9 bd2_W9 bdF_W9 bdL_W9 bn0_W9 bn1_W9 bn2_W9 bnF_W9 bnL_W9 bx0_W9 bx1_W9 bx2_W9 bx3_W9 bx4_W9 bx5_W9 bxF_W9 bxL_W9 lo0_W9 lo1_W9 lo2_W9 loF_W9 loL_W9 oD_W9 oR_W9 oL_W9 acc_W9
        have oM_w10 := hidP (OM.out)
        have lhM : Hid (∀ k, (Value.slice A10 n2 C10).ownBlock = some k → W9.heap.size ≤ k ∧ k < w10.heap.size) := hidP (fun k hk => OwnG.lt oM_w10.out k hk)
        clear OM
        go_wp2_with fail
        obtain ⟨lt0_W11, lt1_W11, lt2_W11⟩ := box3B w10 26 (.slice A10 n2 C10) (.int .i64 K) (.int .i64 N2)
        have ltF_W11 : ∀ o, (w10.alloc (.cells #[.slice A10 n2 C10, .int .i64 K, .int .i64 N2] 26)).frozen? ⟨w10.heap.size, o, none⟩ = false := fun o => by simp [go_sem]
        have ltL_W11 : w10.heap.size < (w10.alloc (.cells #[.slice A10 n2 C10, .int .i64 K, .int .i64 N2] 26)).heap.size := by simp
        have ab_W11 := alloc_below w10 (.cells #[.slice A10 n2 C10, .int .i64 K, .int .i64 N2] 26)
        have as_W11 : Hid ((w10.alloc (.cells #[.slice A10 n2 C10, .int .i64 K, .int .i64 N2] 26)).heap.size = w10.heap.size + 1) := hidP (by simp)
        generalize w10.alloc (.cells #[.slice A10 n2 C10, .int .i64 K, .int .i64 N2] 26) = W11 at *
        have six_W11 := hidP (six_w10.out.trans (ab_W11.mono six_w10.out.size))
        clear six_w10
        have bd0_W11 := (ab_W11.cell bdL_w10).trans bd0_w10
        have bd1_W11 := (ab_W11.cell bdL_w10).trans bd1_w10
        have bd2_W11 := (ab_W11.cell bdL_w10).trans bd2_w10
        have bdF_W11 : ∀ o, W11.frozen? ⟨w1.heap.size, o, none⟩ = false := fun o => (ab_W11.frozen bdL_w10).trans (bdF_w10 o)
        have bdL_W11 : w1.heap.size < W11.heap.size := Nat.lt_of_lt_of_le bdL_w10 ab_W11.size
        have bn0_W11 := (ab_W11.cell bnL_w10).trans bn0_w10
        have bn1_W11 := (ab_W11.cell bnL_w10).trans bn1_w10
        have bn2_W11 := (ab_W11.cell bnL_w10).trans bn2_w10
        have bnF_W11 : ∀ o, W11.frozen? ⟨w3.heap.size, o, none⟩ = false := fun o => (ab_W11.frozen bnL_w10).trans (bnF_w10 o)
        have bnL_W11 : w3.heap.size < W11.heap.size := Nat.lt_of_lt_of_le bnL_w10 ab_W11.size
        have bx0_W11 := (ab_W11.cell bxL_w10).trans bx0_w10
        have bx1_W11 := (ab_W11.cell bxL_w10).trans bx1_w10
        have bx2_W11 := (ab_W11.cell bxL_w10).trans bx2_w10
        have bx3_W11 := (ab_W11.cell bxL_w10).trans bx3_w10
        have bx4_W11 := (ab_W11.cell bxL_w10).trans bx4_w10
        have bx5_W11 := (ab_W11.cell bxL_w10).trans bx5_w10
        have bxF_W11 : ∀ o, W11.frozen? ⟨wr.heap.size, o, none⟩ = false := fun o => (ab_W11.frozen bxL_w10).trans (bxF_w10 o)
        have bxL_W11 : wr.heap.size < W11.heap.size := Nat.lt_of_lt_of_le bxL_w10 ab_W11.size
        have lo0_W11 := (ab_W11.cell loL_w10).trans lo0_w10
        have lo1_W11 := (ab_W11.cell loL_w10).trans lo1_w10
        have lo2_W11 := (ab_W11.cell loL_w10).trans lo2_w10
        have loF_W11 : ∀ o, W11.frozen? ⟨w8.heap.size, o, none⟩ = false := fun o => (ab_W11.frozen loL_w10).trans (loF_w10 o)
        have loL_W11 : w8.heap.size < W11.heap.size := Nat.lt_of_lt_of_le loL_w10 ab_W11.size
        have oD_W11 := hidP (OwnG.later oD_w10.out ab_W11)
        have oR_W11 := hidP (OwnG.later oR_w10.out ab_W11)
        have oL_W11 := hidP (OwnG.later oL_w10.out ab_W11)
        have oM_W11 := hidP (OwnG.later oM_w10.out ab_W11)
        have acc_W11 := hidP (acc_w10.out.trans (ab_W11.mono acc_w10.out.size))
        have sz_W11 : Hid (w10.heap.size ≤ W11.heap.size) := hidP ab_W11.size
        clear ab_W11 bd0_w10 bd1_w10 bd2_w10 bdF_w10 bdL_w10 bn0_w10 bn1_w10 bn2_w10 bnF_w10 bnL_w10 bx0_w10 bx1_w10 bx2_w10 bx3_w10 bx4_w10 bx5_w10 bxF_w10 bxL_w10 lo0_w10 lo1_w10 lo2_w10 loF_w10 loL_w10 oD_w10 oR_w10 oL_w10 oM_w10 acc_w10
        refine (HH.out _ A10 C10 oM_W11.out.row (HGl.out.later acc_W11.out)).mono ?_
        rintro e w12 ⟨rfl, hb12⟩
        have six_w12 := hidP (six_W11.out.trans (hb12.mono six_W11.out.size))
        clear six_W11
        have bd0_w12 := (hb12.cell bdL_W11).trans bd0_W11
        have bd1_w12 := (hb12.cell bdL_W11).trans bd1_W11
        have bd2_w12 := (hb12.cell bdL_W11).trans bd2_W11
        have bdF_w12 : ∀ o, w12.frozen? ⟨w1.heap.size, o, none⟩ = false := fun o => (hb12.frozen bdL_W11).trans (bdF_W11 o)
        have bdL_w12 : w1.heap.size < w12.heap.size := Nat.lt_of_lt_of_le bdL_W11 hb12.size
        have bn0_w12 := (hb12.cell bnL_W11).trans bn0_W11
        have bn1_w12 := (hb12.cell bnL_W11).trans bn1_W11
        have bn2_w12 := (hb12.cell bnL_W11).trans bn2_W11
        have bnF_w12 : ∀ o, w12.frozen? ⟨w3.heap.size, o, none⟩ = false := fun o => (hb12.frozen bnL_W11).trans (bnF_W11 o)
        have bnL_w12 : w3.heap.size < w12.heap.size := Nat.lt_of_lt_of_le bnL_W11 hb12.size
        have bx0_w12 := (hb12.cell bxL_W11).trans bx0_W11
        have bx1_w12 := (hb12.cell bxL_W11).trans bx1_W11
        have bx2_w12 := (hb12.cell bxL_W11).trans bx2_W11
        have bx3_w12 := (hb12.cell bxL_W11).trans bx3_W11
        have bx4_w12 := (hb12.cell bxL_W11).trans bx4_W11
        have bx5_w12 := (hb12.cell bxL_W11).trans bx5_W11
        have bxF_w12 : ∀ o, w12.frozen? ⟨wr.heap.size, o, none⟩ = false := fun o => (hb12.frozen bxL_W11).trans (bxF_W11 o)
        have bxL_w12 : wr.heap.size < w12.heap.size := Nat.lt_of_lt_of_le bxL_W11 hb12.size
        have lo0_w12 := (hb12.cell loL_W11).trans lo0_W11
        have lo1_w12 := (hb12.cell loL_W11).trans lo1_W11
        have lo2_w12 := (hb12.cell loL_W11).trans lo2_W11
        have loF_w12 : ∀ o, w12.frozen? ⟨w8.heap.size, o, none⟩ = false := fun o => (hb12.frozen loL_W11).trans (loF_W11 o)
        have loL_w12 : w8.heap.size < w12.heap.size := Nat.lt_of_lt_of_le loL_W11 hb12.size
        have lt0_w12 := (hb12.cell ltL_W11).trans lt0_W11
        have lt1_w12 := (hb12.cell ltL_W11).trans lt1_W11
        have lt2_w12 := (hb12.cell ltL_W11).trans lt2_W11
        have ltF_w12 : ∀ o, w12.frozen? ⟨w10.heap.size, o, none⟩ = false := fun o => (hb12.frozen ltL_W11).trans (ltF_W11 o)
        have ltL_w12 : w10.heap.size < w12.heap.size := Nat.lt_of_lt_of_le ltL_W11 hb12.size
        have oD_w12 := hidP (OwnG.later oD_W11.out hb12)
        have oR_w12 := hidP (OwnG.later oR_W11.out hb12)
        have oL_w12 := hidP (OwnG.later oL_W11.out hb12)
        have oM_w12 := hidP (OwnG.later oM_W11.out hb12)
        have acc_w12 := hidP (acc_W11.out.trans (hb12.mono acc_W11.out.size))
        have sz_w12 : Hid (W11.heap.size ≤ w12.heap.size) := hidP hb12.size
        clear hb12 bd0_W11 bd1_W11 bd2_W11 bdF_W11 bdL_W11 bn0_W11 bn1_W11 bn2_W11 bnF_W11 bnL_W11 bx0_W11 bx1_W11 bx2_W11 bx3_W11 bx4_W11 bx5_W11 bxF_W11 bxL_W11 lo0_W11 lo1_W11 lo2_W11 loF_W11 loL_W11 lt0_W11 lt1_W11 lt2_W11 ltF_W11 ltL_W11 oD_W11 oR_W11 oL_W11 oM_W11 acc_W11
        clear HH
        cases hD : (D == 0)
        · go_wp2_with fail
          go_roundw
          case rel => exact ⟨i + 1, by go_num, by omega, six_w12.out⟩
          case measure => simp [intOf]; omega
        · cases hu : decide (q.u < N + 1000)
          · go_wp2_with fail
            go_roundw
            case rel => exact ⟨i + 1, by go_num, by omega, six_w12.out⟩
            case measure => simp [intOf]; omega
          · have hE : (E != 0) = false := by rw [HFin.out (by simpa using hD) (of_decide_eq_true hu)]; rfl
            go_wp2_with fail
            go_roundw
            case rel => exact ⟨i + 1, by go_num, by omega, six_w12.out⟩
            case measure => simp [intOf]; omega
      · have gi : decide ((i : Int) < (n : Int)) = false := decide_eq_false (by omega)
        go_wp2_with fail
        go_ret
        exact ⟨rfl, acc_wr.out⟩

theorem Tryz.et : Tryz.prog.globalNamed "errors.errorType" = some 0 := by kernel_rfl
theorem Tryz.rt : (Tryz.prog.cutTypes.find? (·.1 == "internal/reflectlite.rtype")).map (·.2) = some 138 := by kernel_rfl
theorem Tryz.oneRow : ((List.range 202).filter fun t => Tryz.prog.rowNamed t [101, 114, 114, 111, 114]) = [58] := by kernel_rfl
theorem Tryz.sizeT : Tryz.prog.types.size = 202 := by kernel_rfl
/-- What the row's list gives: the one variable's cell. -/
theorem glob_of {W : World} (h : laidMetH Tryz.prog Rows.fnTimeRow.laid W) : GlobE W := by
  have h' : laidMet Tryz.prog [] W ∧ handlesMet Tryz.prog Rows.fnTimeRow.laid W := h
  obtain ⟨name, u, ty, e1, e2, e3, e4, e5⟩ := h'.2 _ (List.mem_singleton.2 rfl)
  have en : name = [101, 114, 114, 111, 114] := (Option.some.inj e1).symm
  subst en
  obtain rfl := Option.some.inj (Tryz.rt.symm.trans e2)
  have hm : ty ∈ (List.range 202).filter fun t => Tryz.prog.rowNamed t [101, 114, 114, 111, 114] := List.mem_filter.2 ⟨List.mem_range.2 (by rw [← Tryz.sizeT]; exact e3), e4⟩
  rw [Tryz.oneRow] at hm
  obtain rfl := List.mem_singleton.1 hm
  have hh : typeHandle Tryz.prog 58 = .pointer (some ⟨1, 58, none⟩) := by kernel_rfl
  rw [hh] at e5
  simpa [GlobE] using World.var?_cell Tryz.et e5 0

/-- A world for the witness: the settled one, the variable's cell laid. -/
noncomputable def laidWorld (os : Os) : World :=
  let w0 := World.holding Tryz.prog os ⟨#[], #[], []⟩
  { w0 with heap := w0.heap.modify 0 fun
      | .cells _ t frozen => .cells #[.iface 138 (.agg #[.pointer (some ⟨1, 58, none⟩)])] t frozen
      | o => o }
theorem laidWorld_met (os : Os) (args : Array Value) : laidMetH Tryz.prog Rows.fnTimeRow.laid ((laidWorld os).forCall (fun _ _ => 0) ⟨#[], args, []⟩).memory :=
  laidMetH_of_parts (laidMet_nil _ _) (by kernel_rfl)

set_option maxRecDepth 100000 in
theorem time_lifted (os : Os) (started : os.Started) (H : Type) (enc : TypeId × Value → H) :
    ReturnsInHanded {} Tryz.checked os 4 .any (fun w args => (Rows.fnTimeSpec.pre enc Tryz.prog Tryz.f4 [] false w args ∧ laidMetH Tryz.prog Rows.fnTimeRow.laid w) ∧ sizedMet enc Tryz.prog Tryz.f4 (OpenSpec.ofChange Rows.fnTimeSpec) false w args)
      (Rows.fnTimeSpec.post enc Tryz.prog Tryz.f4 false true false false) := by
  refine returnsInHanded_of_change_and (C := Tryz.checked) (X := fun w _ => laidMetH Tryz.prog Rows.fnTimeRow.laid w) (fun _ _ _ hh h => h.of_heap hh) Tryz.ownB6 started (by kernel_rfl) Tryz.func4
    (ChangeSpec.witness_at (enc := enc) (C := Tryz.checked) (os := os) (X := fun w _ => laidMetH Tryz.prog Rows.fnTimeRow.laid w) false (laidWorld os) #[.slice none 0 0] 8 rfl (by kernel_rfl) (by kernel_rfl) (by kernel_rfl) (by kernel_rfl) (by kernel_rfl) (laidWorld_met os _)) ?_
  intro W base args ds gs before hval0 hW _ _ hL _
  have hval : ∀ (j : Nat) t v, Tryz.f4.params[j]? = some t → args[j]? = some v → Value.okWide Tryz.prog W .any base t v := hval0
  have hW' := hW
  obtain ⟨p, q, hA0, hV, rfl, _, _⟩ := hW
  have hA : DataW.TrodAll enc Tryz.prog W 0 (fun _ => true) true Tryz.f4.params.toList args.toList ds p := hA0
  rw [Tryz.params4] at hA hval
  obtain ⟨v0, d0, rfl, rfl, h0⟩ := trodAll_one hA
  obtain ⟨rfl, rfl⟩ := trodVars_none hV
  obtain ⟨a0, len, cap, rfl⟩ := okWide_slice Tryz.underlying22 (hval 0 22 v0 rfl rfl)
  clear hA0 hval0
  simp only [List.append_nil] at hW'
  have hg := glob_of hL
  have hlt : ∀ x ∈ p, x.block < W.heap.size := fun x hx => by simpa using hW'.lt x hx
  refine (lawTime a0 len cap W (bytes_open h0) hg).mono fun e W' ⟨he, hb⟩ => ?_
  subst he
  exact ⟨_, rfl, ⟨_, _, _, [], p, [], hW', trodAll_mk1 (shut_bool Tryz.underlying4 true), trodAll_mk1 (Below.trod Tryz.laidOutB6 (by kernel_rfl) (of_decide_eq_true (by kernel_rfl)) h0 hb hlt), rfl, hb.frame _, fun h => by cases h⟩⟩


theorem time_said : Rows.FnTimeSaid :=
  OpenClaim.holds_of_wide 4 Tryz.f4 rfl rfl rfl rfl rfl rfl rfl ⟨rfl, rfl, rfl, rfl, rfl⟩ rfl rfl rfl rfl rfl (by kernel_rfl) Tryz.func4 (by kernel_rfl)
    (of_decide_eq_true (by kernel_rfl)) (by unfold Func.isWrapper; rw [if_neg (of_decide_eq_false (by kernel_rfl))]; exact ⟨rfl, rfl⟩)
    (fun os started H enc _ => time_lifted os started H enc)

theorem plainD (f : FuncId) (fn : Func) (hf : Tryz.pinned.checked.prog.funcNamed "loop.example/g00113/laws.FnTime" = some f) (hfn : Tryz.pinned.checked.prog.funcs[f]? = some fn) :
    true = Tryz.pinned.checked.prog.looks [] ∧ ∀ (j : Nat) t, fn.params[j]? = some t → Tryz.pinned.checked.prog.wantsStandIn t = false := by
  obtain rfl : f = 4 := Option.some.inj ((show Tryz.prog.funcNamed "loop.example/g00113/laws.FnTime" = some 4 by kernel_rfl).symm.trans hf) |>.symm
  obtain rfl : fn = Tryz.f4 := (Option.some.inj (Tryz.func4.symm.trans hfn)).symm
  refine ⟨by kernel_rfl, fun j t ht => ?_⟩
  rw [Tryz.params4] at ht
  have hm := Array.mem_of_getElem? ht
  simp at hm
  rcases hm with rfl
  all_goals (first | exact (show Tryz.prog.wantsStandIn _ = false by kernel_rfl))

theorem time_card : Rows.FnTimeCardSaid :=
  Claim7.holds_tied_plain_at .later [] _ _ _ _ time_said (fun _ h => by cases h) (by kernel_rfl) (fun _ h => by cases h) fnTime_row_tie rfl ⟨rfl, rfl⟩ (by kernel_rfl) rfl plainD (by kernel_rfl)

end Go.Proofs.YtddnofonodgneaaGreatDoor
