/-
  slices: the merge of two sorted parts of a row.
-/
import Derived.Test.YtgohffeneibhdaaMSyQ
import Derived.Deep.DeepCutAuto
namespace Go.Proofs.Ytgohffeneibhdaa
open Go.RowKit

set_option maxRecDepth 10000 in
set_option maxHeartbeats 20000000 in
theorem symC_stepA (A : Pf → Prop) (c : Pf → Pf → Int) (ho : Ordr A c) (hc : Cmpr A c) (g n cap B k : Nat) (hn9 : n ≤ 1000000000) (IH : SymP A c g n cap B k) (p U V q : List Pf) (a m b : Nat) (ha : a = p.length) (hm : m = p.length + U.length) (hb : b = p.length + U.length + V.length) (hk : U.length + V.length ≤ k + 1) (hU2 : 2 ≤ U.length) (hV2 : 2 ≤ V.length) (hUA : ∀ y ∈ U, A y) (hVA : ∀ y ∈ V, A y) (hU : Srt c U) (hV : Srt c V) (hmx : (a + b) / 2 < m) (w : World) (h : OwnR 55 w B (.slice (some ⟨g, 0, none⟩) n cap) (p ++ (U ++ (V ++ q)))) :
    Calls Try.prog 90 #[.slice (some ⟨g, 0, none⟩) n cap, .int .i64 a, .int .i64 m, .int .i64 b, .func (.func 30) #[] #[]] w fun e w' => (∃ v, e = .returned v) ∧ (∃ R, R.Perm (U ++ V) ∧ Srt c R ∧ OwnR 55 w' B (.slice (some ⟨g, 0, none⟩) n cap) (p ++ (R ++ q))) ∧ w.grownBy w' (some g) := by
  have HO := hidP h
  have HOr := hidP ho
  have HC := hidP hc
  have HIH := hidP IH
  have HA := hidP (And.intro hUA hVA)
  have HSt := hidP (And.intro hU hV)
  have hn : n = p.length + U.length + V.length + q.length := by rw [h.caps.1]; simp; omega
  have HF := hidP (And.intro ha (And.intro hm (And.intro hb (And.intro hn (And.intro hk (And.intro hU2 hV2))))))
  obtain ⟨z, hz⟩ : ∃ z : Int, (a : Int) + (b : Int) = z := ⟨_, rfl⟩
  obtain ⟨M, hM⟩ : ∃ M : Nat, z / 2 = (M : Int) := ⟨(z / 2).toNat, by omega⟩
  obtain ⟨N, hN⟩ : ∃ N : Nat, (M : Int) + (m : Int) = (N : Int) := ⟨M + m, by omega⟩
  obtain ⟨P, hP⟩ : ∃ P : Nat, (N : Int) - 1 = (P : Int) := ⟨N - 1, by omega⟩
  have e0 : ¬ (m : Int) - (a : Int) = 1 := by omega
  have e1 : ¬ (b : Int) - (m : Int) = 1 := by omega
  have e0b : ((m : Int) - (a : Int) == 1) = false := by rw [beq_eq_false_iff_ne]; exact e0
  have e1b : ((b : Int) - (m : Int) == 1) = false := by rw [beq_eq_false_iff_ne]; exact e1
  have hz0 : 0 ≤ z := by omega
  have hz9 : z ≤ 2000000000 := by omega
  have hM9 : M ≤ 1000000000 := by omega
  have hN9 : N ≤ 2000000000 := by omega
  have hP9 : P ≤ 2000000000 := by omega
  have ham : a < m := by omega
  have hmb : m < b := by omega
  have hbn : b ≤ n := by omega
  have HZ := hidP (And.intro hz (And.intro hM (And.intro hN hP)))
  clear h ho hc IH hUA hVA hU hV ha hm hb hk hn hU2 hV2
  · have hmM : M < m := by omega
    have hmMb : decide (M < m) = true := decide_eq_true hmM
    have hmMc : decide ((M : Int) < (m : Int)) = true := decide_eq_true (by omega)
    obtain ⟨lo, hlo⟩ : ∃ lo : Nat, (N : Int) - (b : Int) = (lo : Int) := ⟨N - b, by omega⟩
    obtain ⟨hi, hhi⟩ : ∃ hi, hi = M := ⟨_, rfl⟩
    have hB : RngC a m b M lo hi := ⟨by omega, by omega, by omega, by omega, by omega, by omega, by omega⟩
    have hlo9 : lo ≤ 1000000000 := by have := hB.2.1; have := hB.2.2.1; omega
    have HB := hidP hB
    clear hB
    have HHL := hidP (And.intro hlo hhi)
    clear hmx
    go_enter Try.func90, Try.ntmps90
    go_wp2_with fail
    go_loopw [20, 21] (fun t20 t21 wr => ∃ (i j : Nat), t20 = .int .i64 i ∧ t21 = .int .i64 j ∧ InvC c U V a M lo hi i j ∧ OwnR 55 wr B (.slice (some ⟨g, 0, none⟩) n cap) (p ++ (U ++ (V ++ q))) ∧ w.grownBy wr (some g)) (fun t20 t21 _ => (intOf t21).toNat - (intOf t20).toNat)
    case atStart =>
      exact ⟨lo, hi, by first | rfl | rw [HHL.out.1], by rw [HHL.out.2], ⟨Nat.le_refl _, HB.out.2.1, Nat.le_refl _, Or.inl rfl, Or.inl rfl⟩, HO.out, World.grownBy.refl _ _⟩
    case round =>
      obtain ⟨i, j, rfl, rfl, hInv, hown, hgr⟩ := hrel
      have HI := hidP hInv
      have HOw := hidP hown
      have HG := hidP hgr
      have hB := HB.out
      unfold RngC at hB
      have hijle : i ≤ j := hInv.2.1
      have hloi : lo ≤ i := hInv.1
      have hjhi : j ≤ hi := hInv.2.2.1
      have hjn : j ≤ n := by omega
      have hin : i ≤ n := by omega
      by_cases hlt : i < j
      · obtain ⟨z2, hz2⟩ : ∃ z2 : Int, (i : Int) + (j : Int) = z2 := ⟨_, rfl⟩
        obtain ⟨C, hC⟩ : ∃ C : Nat, z2 / 2 = (C : Int) := ⟨(z2 / 2).toNat, by omega⟩
        have hZ := HZ.out
        obtain ⟨Q, hQ⟩ : ∃ Q : Nat, (P : Int) - (C : Int) = (Q : Int) := ⟨P - C, by omega⟩
        have hz20 : 0 ≤ z2 := by omega
        have hz29 : z2 ≤ 2000000000 := by omega
        have hF := HF.out
        have hCn : C < n := by omega
        have hQn : Q < n := by omega
        have hC9 : C ≤ 1000000000 := by omega
        have hQ9 : Q ≤ 1000000000 := by omega
        have hQw : IntKind.i64.wrap (Q : Int) = (Q : Int) := by rw [IntKind.wrap_i64]; omega
        obtain ⟨zv, hzv⟩ : ∃ zv, V[M - 1 - C]? = some zv := ⟨_, List.getElem?_eq_getElem (by omega)⟩
        obtain ⟨xv, hxv⟩ : ∃ xv, U[C - a]? = some xv := ⟨_, List.getElem?_eq_getElem (by omega)⟩
        have hzA : A zv := HA.out.2 zv (List.mem_of_getElem? hzv)
        have hxA : A xv := HA.out.1 xv (List.mem_of_getElem? hxv)
        have eQ : (p ++ (U ++ (V ++ q)))[Q]? = some zv := by
          rw [List.getElem?_append_right (by omega), List.getElem?_append_right (by omega), show Q - p.length - U.length = M - 1 - C by omega, List.getElem?_append_left (by omega)]; exact hzv
        have eC : (p ++ (U ++ (V ++ q)))[C]? = some xv := by
          rw [List.getElem?_append_right (by omega), show C - p.length = C - a by omega, List.getElem?_append_left (by omega)]; exact hxv
        obtain ⟨x0, x1, x2, x3⟩ := HOw.out.atk Q zv eQ
        obtain ⟨y0, y1, y2, y3⟩ := HOw.out.atk C xv eC
        have hgi := (HOw.out.lt g rfl).2
        have HK := hidP (HC.out zv xv hzA hxA)
        have HV := hidP (And.intro hzv hxv)
        have HC2 := hidP (And.intro hz2 hC)
        have HCb := hidP (show i ≤ C ∧ C < j by omega)
        clear hF hZ hB eQ eC hzv hxv hzA hxA hInv hown hgr hijle hloi hjhi
        go_wp2_with fail
        by_cases hcl : c zv xv < 0
        · have dcl : decide (c zv xv < 0) = true := decide_eq_true hcl
          refine wp_region_held_drew (S := (fun v => v.cell? ⟨g, Q * 4, none⟩ = some (.bool zv.s) ∧ v.cell? ⟨g, Q * 4 + 1, none⟩ = some (.int .i64 zv.H.toInt) ∧ v.cell? ⟨g, Q * 4 + 2, none⟩ = some (.int .i64 zv.L.toInt) ∧ v.cell? ⟨g, Q * 4 + 3, none⟩ = some (.int .i64 zv.b) ∧ v.cell? ⟨g, C * 4, none⟩ = some (.bool xv.s) ∧ v.cell? ⟨g, C * 4 + 1, none⟩ = some (.int .i64 xv.H.toInt) ∧ v.cell? ⟨g, C * 4 + 2, none⟩ = some (.int .i64 xv.L.toInt) ∧ v.cell? ⟨g, C * 4 + 3, none⟩ = some (.int .i64 xv.b))) (by kernel_rfl) ?_ (fun hHeld => ?_)
          · try dsimp only
            exact keepS (Below.refl _ _).drew hgi ⟨x0, x1, x2, x3, y0, y1, y2, y3⟩
          refine wpAnyH_take (i := 0) (oi := ⟨some 158, _, _, _, _, _⟩) (v := ?_) rfl (by kernel_rfl) (by kernel_rfl) (by kernel_rfl) (fun _ _ _ h => h) (Or.inl ⟨by rfl, ?_⟩) (by assumption) ?_
          rotate_left
          · intro w hSw
            try dsimp only at hSw
            go_simp
            try with_reducible rfl
          simp only [Act.put, List.setIfInBounds_toArray, List.set_cons_zero, List.set_cons_succ]
          refine wpAnyH_take (i := 1) (oi := ⟨some 159, _, _, _, _, _⟩) (v := ?_) rfl (by kernel_rfl) (by kernel_rfl) (by kernel_rfl) (fun _ _ _ h => h) (Or.inl ⟨by rfl, ?_⟩) (by assumption) ?_
          rotate_left
          · intro w hSw
            try dsimp only at hSw
            go_simp
            try with_reducible rfl
          simp only [Act.put, List.setIfInBounds_toArray, List.set_cons_zero, List.set_cons_succ]
          refine wpAnyH_take (i := 2) (oi := ⟨some 160, _, _, _, _, _⟩) (v := ?_) rfl (by kernel_rfl) (by kernel_rfl) (by kernel_rfl) (fun _ _ _ h => h) (Or.inl ⟨by rfl, ?_⟩) (by assumption) ?_
          rotate_left
          · intro w hSw
            try dsimp only at hSw
            go_simp
            try with_reducible rfl
          simp only [Act.put, List.setIfInBounds_toArray, List.set_cons_zero, List.set_cons_succ]
          refine wpAnyH_take (i := 3) (oi := ⟨some 161, _, _, _, _, _⟩) (v := ?_) rfl (by kernel_rfl) (by kernel_rfl) (by kernel_rfl) (fun _ _ _ h => h) (Or.inl ⟨by rfl, ?_⟩) (by assumption) ?_
          rotate_left
          · intro w hSw
            try dsimp only at hSw
            go_simp
            try with_reducible rfl
          simp only [Act.put, List.setIfInBounds_toArray, List.set_cons_zero, List.set_cons_succ]
          refine wpAnyH_take (i := 4) (oi := ⟨some 162, _, _, _, _, _⟩) (v := ?_) rfl (by kernel_rfl) (by kernel_rfl) (by kernel_rfl) (fun _ _ _ h => h) (Or.inl ⟨by rfl, ?_⟩) (by assumption) ?_
          rotate_left
          · intro w hSw
            try dsimp only at hSw
            go_simp
            try with_reducible rfl
          simp only [Act.put, List.setIfInBounds_toArray, List.set_cons_zero, List.set_cons_succ]
          refine wpAnyH_take (i := 5) (oi := ⟨some 163, _, _, _, _, _⟩) (v := ?_) rfl (by kernel_rfl) (by kernel_rfl) (by kernel_rfl) (fun _ _ _ h => h) (Or.inl ⟨by rfl, ?_⟩) (by assumption) ?_
          rotate_left
          · intro w hSw
            try dsimp only at hSw
            go_simp
            try with_reducible rfl
          simp only [Act.put, List.setIfInBounds_toArray, List.set_cons_zero, List.set_cons_succ]
          refine wpAnyH_take (i := 6) (oi := ⟨some 164, _, _, _, _, _⟩) (v := ?_) rfl (by kernel_rfl) (by kernel_rfl) (by kernel_rfl) (fun _ _ _ h => h) (Or.inl ⟨by rfl, ?_⟩) (by assumption) ?_
          rotate_left
          · intro w hSw
            try dsimp only at hSw
            go_simp
            try with_reducible rfl
          simp only [Act.put, List.setIfInBounds_toArray, List.set_cons_zero, List.set_cons_succ]
          refine wpAnyH_take (i := 7) (oi := ⟨some 165, _, _, _, _, _⟩) (v := ?_) rfl (by kernel_rfl) (by kernel_rfl) (by kernel_rfl) (fun _ _ _ h => h) (Or.inl ⟨by rfl, ?_⟩) (by assumption) ?_
          rotate_left
          · intro w hSw
            try dsimp only at hSw
            go_simp
            try with_reducible rfl
          simp only [Act.put, List.setIfInBounds_toArray, List.set_cons_zero, List.set_cons_succ]
          refine wpAnyH_take (i := 8) (oi := ⟨some 166, _, _, _, _, _⟩) (v := ?_) rfl (by kernel_rfl) (by kernel_rfl) (by kernel_rfl) (fun _ _ _ h => h) (Or.inl ⟨by rfl, ?_⟩) (by assumption) ?_
          rotate_left
          · intro w hSw
            try dsimp only at hSw
            go_simp
            try with_reducible rfl
          simp only [Act.put, List.setIfInBounds_toArray, List.set_cons_zero, List.set_cons_succ]
          refine wpAnyH_take (i := 9) (oi := ⟨some 167, _, _, _, _, _⟩) (v := ?_) rfl (by kernel_rfl) (by kernel_rfl) (by kernel_rfl) (fun _ _ _ h => h) (Or.inl ⟨by rfl, ?_⟩) (by assumption) ?_
          rotate_left
          · intro w hSw
            try dsimp only at hSw
            go_simp
            try with_reducible rfl
          simp only [Act.put, List.setIfInBounds_toArray, List.set_cons_zero, List.set_cons_succ]
          refine wpAnyH_take (i := 10) (oi := ⟨some 168, _, _, _, _, _⟩) (v := ?_) rfl (by kernel_rfl) (by kernel_rfl) (by kernel_rfl) (fun _ _ _ h => h) (Or.inl ⟨by rfl, ?_⟩) (by assumption) ?_
          rotate_left
          · intro w hSw
            try dsimp only at hSw
            go_simp
            try with_reducible rfl
          simp only [Act.put, List.setIfInBounds_toArray, List.set_cons_zero, List.set_cons_succ]
          refine wpAnyH_ready (rs := [11]) (by kernel_rfl) (by simp) ?_
          refine AllReadyH.cons rfl (fun K hK => ?_) AllReadyH.nil
          go_simp
          go_wp2_with (first | (go_at_call 30; refine (HK.out _).mono ?_; rintro e w2 ⟨rfl, hb2⟩; have hr2 : Below wr.heap.size wr w2 := (Below.refl _ wr).drew.trans (hb2.mono (by simp))))
          refine hK.out _ _ ?_ (fun hHeld => ?_)
          · try dsimp only
            exact keepS hr2 hgi ⟨x0, x1, x2, x3, y0, y1, y2, y3⟩
          clear hK K
          refine wpAnyH_take (i := 12) (oi := ⟨some 170, _, _, _, _, _⟩) (v := ?_) rfl (by kernel_rfl) (by kernel_rfl) (by kernel_rfl) (fun _ _ _ h => h) (Or.inl ⟨by rfl, ?_⟩) (by assumption) ?_
          rotate_left
          · intro w hSw
            try dsimp only at hSw
            go_simp
            try with_reducible rfl
          simp only [Act.put, List.setIfInBounds_toArray, List.set_cons_zero, List.set_cons_succ]
          refine wpAnyH_take (i := 13) (oi := ⟨some 171, _, _, _, _, _⟩) (v := ?_) rfl (by kernel_rfl) (by kernel_rfl) (by kernel_rfl) (fun _ _ _ h => h) (Or.inl ⟨by rfl, ?_⟩) (by assumption) ?_
          rotate_left
          · intro w hSw
            try dsimp only at hSw
            go_simp
            try with_reducible rfl
          simp only [Act.put, List.setIfInBounds_toArray, List.set_cons_zero, List.set_cons_succ]
          refine wpAnyH_done (by kernel_rfl) ?_ _
          have HO2 := hidP (HOw.out.later hr2)
          have HG2 := hidP (HG.out.trans (below_grown' hr2 _))
          clear hr2 x0 x1 x2 x3 y0 y1 y2 y3 hHeld hb2
          go_wp2_with fail
          go_roundw
          case rel =>
            have hI : InvC c U V a M lo hi i C := by
              obtain ⟨f1, f2, f3, f4, f5⟩ := HI.out
              have := HCb.out
              exact ⟨f1, by omega, by omega, f4, Or.inr ⟨xv, zv, HV.out.2, HV.out.1, hcl⟩⟩
            first
              | exact ⟨i, C, rfl, rfl, hI, HO2.out, HG2.out⟩
              | ((repeat apply Exists.intro); exact ⟨⟨i, C, rfl, rfl, hI, HO2.out, HG2.out⟩, rfl⟩)
          case measure => have := HCb.out; simp [intOf]; omega
        · have dcl : decide (c zv xv < 0) = false := decide_eq_false hcl
          refine wp_region_held_drew (S := (fun v => v.cell? ⟨g, Q * 4, none⟩ = some (.bool zv.s) ∧ v.cell? ⟨g, Q * 4 + 1, none⟩ = some (.int .i64 zv.H.toInt) ∧ v.cell? ⟨g, Q * 4 + 2, none⟩ = some (.int .i64 zv.L.toInt) ∧ v.cell? ⟨g, Q * 4 + 3, none⟩ = some (.int .i64 zv.b) ∧ v.cell? ⟨g, C * 4, none⟩ = some (.bool xv.s) ∧ v.cell? ⟨g, C * 4 + 1, none⟩ = some (.int .i64 xv.H.toInt) ∧ v.cell? ⟨g, C * 4 + 2, none⟩ = some (.int .i64 xv.L.toInt) ∧ v.cell? ⟨g, C * 4 + 3, none⟩ = some (.int .i64 xv.b))) (by kernel_rfl) ?_ (fun hHeld => ?_)
          · try dsimp only
            exact keepS (Below.refl _ _).drew hgi ⟨x0, x1, x2, x3, y0, y1, y2, y3⟩
          refine wpAnyH_take (i := 0) (oi := ⟨some 158, _, _, _, _, _⟩) (v := ?_) rfl (by kernel_rfl) (by kernel_rfl) (by kernel_rfl) (fun _ _ _ h => h) (Or.inl ⟨by rfl, ?_⟩) (by assumption) ?_
          rotate_left
          · intro w hSw
            try dsimp only at hSw
            go_simp
            try with_reducible rfl
          simp only [Act.put, List.setIfInBounds_toArray, List.set_cons_zero, List.set_cons_succ]
          refine wpAnyH_take (i := 1) (oi := ⟨some 159, _, _, _, _, _⟩) (v := ?_) rfl (by kernel_rfl) (by kernel_rfl) (by kernel_rfl) (fun _ _ _ h => h) (Or.inl ⟨by rfl, ?_⟩) (by assumption) ?_
          rotate_left
          · intro w hSw
            try dsimp only at hSw
            go_simp
            try with_reducible rfl
          simp only [Act.put, List.setIfInBounds_toArray, List.set_cons_zero, List.set_cons_succ]
          refine wpAnyH_take (i := 2) (oi := ⟨some 160, _, _, _, _, _⟩) (v := ?_) rfl (by kernel_rfl) (by kernel_rfl) (by kernel_rfl) (fun _ _ _ h => h) (Or.inl ⟨by rfl, ?_⟩) (by assumption) ?_
          rotate_left
          · intro w hSw
            try dsimp only at hSw
            go_simp
            try with_reducible rfl
          simp only [Act.put, List.setIfInBounds_toArray, List.set_cons_zero, List.set_cons_succ]
          refine wpAnyH_take (i := 3) (oi := ⟨some 161, _, _, _, _, _⟩) (v := ?_) rfl (by kernel_rfl) (by kernel_rfl) (by kernel_rfl) (fun _ _ _ h => h) (Or.inl ⟨by rfl, ?_⟩) (by assumption) ?_
          rotate_left
          · intro w hSw
            try dsimp only at hSw
            go_simp
            try with_reducible rfl
          simp only [Act.put, List.setIfInBounds_toArray, List.set_cons_zero, List.set_cons_succ]
          refine wpAnyH_take (i := 4) (oi := ⟨some 162, _, _, _, _, _⟩) (v := ?_) rfl (by kernel_rfl) (by kernel_rfl) (by kernel_rfl) (fun _ _ _ h => h) (Or.inl ⟨by rfl, ?_⟩) (by assumption) ?_
          rotate_left
          · intro w hSw
            try dsimp only at hSw
            go_simp
            try with_reducible rfl
          simp only [Act.put, List.setIfInBounds_toArray, List.set_cons_zero, List.set_cons_succ]
          refine wpAnyH_take (i := 5) (oi := ⟨some 163, _, _, _, _, _⟩) (v := ?_) rfl (by kernel_rfl) (by kernel_rfl) (by kernel_rfl) (fun _ _ _ h => h) (Or.inl ⟨by rfl, ?_⟩) (by assumption) ?_
          rotate_left
          · intro w hSw
            try dsimp only at hSw
            go_simp
            try with_reducible rfl
          simp only [Act.put, List.setIfInBounds_toArray, List.set_cons_zero, List.set_cons_succ]
          refine wpAnyH_take (i := 6) (oi := ⟨some 164, _, _, _, _, _⟩) (v := ?_) rfl (by kernel_rfl) (by kernel_rfl) (by kernel_rfl) (fun _ _ _ h => h) (Or.inl ⟨by rfl, ?_⟩) (by assumption) ?_
          rotate_left
          · intro w hSw
            try dsimp only at hSw
            go_simp
            try with_reducible rfl
          simp only [Act.put, List.setIfInBounds_toArray, List.set_cons_zero, List.set_cons_succ]
          refine wpAnyH_take (i := 7) (oi := ⟨some 165, _, _, _, _, _⟩) (v := ?_) rfl (by kernel_rfl) (by kernel_rfl) (by kernel_rfl) (fun _ _ _ h => h) (Or.inl ⟨by rfl, ?_⟩) (by assumption) ?_
          rotate_left
          · intro w hSw
            try dsimp only at hSw
            go_simp
            try with_reducible rfl
          simp only [Act.put, List.setIfInBounds_toArray, List.set_cons_zero, List.set_cons_succ]
          refine wpAnyH_take (i := 8) (oi := ⟨some 166, _, _, _, _, _⟩) (v := ?_) rfl (by kernel_rfl) (by kernel_rfl) (by kernel_rfl) (fun _ _ _ h => h) (Or.inl ⟨by rfl, ?_⟩) (by assumption) ?_
          rotate_left
          · intro w hSw
            try dsimp only at hSw
            go_simp
            try with_reducible rfl
          simp only [Act.put, List.setIfInBounds_toArray, List.set_cons_zero, List.set_cons_succ]
          refine wpAnyH_take (i := 9) (oi := ⟨some 167, _, _, _, _, _⟩) (v := ?_) rfl (by kernel_rfl) (by kernel_rfl) (by kernel_rfl) (fun _ _ _ h => h) (Or.inl ⟨by rfl, ?_⟩) (by assumption) ?_
          rotate_left
          · intro w hSw
            try dsimp only at hSw
            go_simp
            try with_reducible rfl
          simp only [Act.put, List.setIfInBounds_toArray, List.set_cons_zero, List.set_cons_succ]
          refine wpAnyH_take (i := 10) (oi := ⟨some 168, _, _, _, _, _⟩) (v := ?_) rfl (by kernel_rfl) (by kernel_rfl) (by kernel_rfl) (fun _ _ _ h => h) (Or.inl ⟨by rfl, ?_⟩) (by assumption) ?_
          rotate_left
          · intro w hSw
            try dsimp only at hSw
            go_simp
            try with_reducible rfl
          simp only [Act.put, List.setIfInBounds_toArray, List.set_cons_zero, List.set_cons_succ]
          refine wpAnyH_ready (rs := [11]) (by kernel_rfl) (by simp) ?_
          refine AllReadyH.cons rfl (fun K hK => ?_) AllReadyH.nil
          go_simp
          go_wp2_with (first | (go_at_call 30; refine (HK.out _).mono ?_; rintro e w2 ⟨rfl, hb2⟩; have hr2 : Below wr.heap.size wr w2 := (Below.refl _ wr).drew.trans (hb2.mono (by simp))))
          refine hK.out _ _ ?_ (fun hHeld => ?_)
          · try dsimp only
            exact keepS hr2 hgi ⟨x0, x1, x2, x3, y0, y1, y2, y3⟩
          clear hK K
          refine wpAnyH_take (i := 12) (oi := ⟨some 170, _, _, _, _, _⟩) (v := ?_) rfl (by kernel_rfl) (by kernel_rfl) (by kernel_rfl) (fun _ _ _ h => h) (Or.inl ⟨by rfl, ?_⟩) (by assumption) ?_
          rotate_left
          · intro w hSw
            try dsimp only at hSw
            go_simp
            try with_reducible rfl
          simp only [Act.put, List.setIfInBounds_toArray, List.set_cons_zero, List.set_cons_succ]
          refine wpAnyH_take (i := 13) (oi := ⟨some 171, _, _, _, _, _⟩) (v := ?_) rfl (by kernel_rfl) (by kernel_rfl) (by kernel_rfl) (fun _ _ _ h => h) (Or.inl ⟨by rfl, ?_⟩) (by assumption) ?_
          rotate_left
          · intro w hSw
            try dsimp only at hSw
            go_simp
            try with_reducible rfl
          simp only [Act.put, List.setIfInBounds_toArray, List.set_cons_zero, List.set_cons_succ]
          refine wpAnyH_done (by kernel_rfl) ?_ _
          have HO2 := hidP (HOw.out.later hr2)
          have HG2 := hidP (HG.out.trans (below_grown' hr2 _))
          clear hr2 x0 x1 x2 x3 y0 y1 y2 y3 hHeld hb2
          go_wp2_with fail
          go_roundw
          case rel =>
            have hI : InvC c U V a M lo hi (C + 1) j := by
              obtain ⟨f1, f2, f3, f4, f5⟩ := HI.out
              have := HCb.out
              exact ⟨by omega, by omega, by omega, Or.inr ⟨xv, zv, by rw [Nat.add_sub_cancel]; exact HV.out.2, by rw [show M - (C + 1) = M - 1 - C by omega]; exact HV.out.1, by omega⟩, f5⟩
            first
              | (refine ⟨C + 1, j, ?_, rfl, hI, HO2.out, HG2.out⟩; go_num; done)
              | ((repeat apply Exists.intro); refine ⟨⟨C + 1, j, ?_, rfl, hI, HO2.out, HG2.out⟩, rfl⟩; go_num; done)
          case measure => have := HCb.out; simp [intOf]; omega
      · have hij : j = i := by omega
        subst hij
        have hZ := HZ.out
        have hF := HF.out
        obtain ⟨F, hFF⟩ : ∃ F : Nat, (N : Int) - (j : Int) = (F : Int) := ⟨N - j, by omega⟩
        have hF9 : F ≤ 1000000000 := by omega
        obtain ⟨U1, hU1⟩ : ∃ U1, U1 = U.take (j - a) := ⟨_, rfl⟩
        obtain ⟨U2, hU2⟩ : ∃ U2, U2 = U.drop (j - a) := ⟨_, rfl⟩
        obtain ⟨V1, hV1⟩ : ∃ V1, V1 = V.take (M - j) := ⟨_, rfl⟩
        obtain ⟨V2, hV2⟩ : ∃ V2, V2 = V.drop (M - j) := ⟨_, rfl⟩
        have hL : j = p.length + U1.length ∧ m = p.length + U1.length + U2.length ∧ F = p.length + U1.length + U2.length + V1.length ∧ b = p.length + U1.length + U2.length + V1.length + V2.length ∧ M = p.length + U1.length + V1.length := by
          rw [hU1, hU2, hV1, hV2, List.length_take, List.length_drop, List.length_take, List.length_drop]; omega
        have hS : Srt c U1 ∧ Srt c U2 ∧ Srt c V1 ∧ Srt c V2 := by
          rw [hU1, hU2, hV1, hV2]
          exact ⟨HSt.out.1.sublist (List.take_sublist _ _), HSt.out.1.sublist (List.drop_sublist _ _), HSt.out.2.sublist (List.take_sublist _ _), HSt.out.2.sublist (List.drop_sublist _ _)⟩
        have hAA : (∀ y ∈ U1, A y) ∧ (∀ y ∈ U2, A y) ∧ (∀ y ∈ V1, A y) ∧ (∀ y ∈ V2, A y) := by
          rw [hU1, hU2, hV1, hV2]
          exact ⟨fun y hy => HA.out.1 y (List.mem_of_mem_take hy), fun y hy => HA.out.1 y (List.mem_of_mem_drop hy), fun y hy => HA.out.2 y (List.mem_of_mem_take hy), fun y hy => HA.out.2 y (List.mem_of_mem_drop hy)⟩
        have hfin : ∀ R1 R2, R1.Perm (U1 ++ V1) → Srt c R1 → R2.Perm (U2 ++ V2) → Srt c R2 → (R1 ++ R2).Perm (U ++ V) ∧ Srt c (R1 ++ R2) := by
          rw [hU1, hU2, hV1, hV2]
          intro R1 R2 p1 s1 p2 s2
          obtain ⟨c1, c2⟩ := inv_cut HI.out (by omega) (by omega) HB.out
          exact mrg_cut HOr.out HA.out.1 HA.out.2 HSt.out.1 HSt.out.2 (j - a) (M - j) c1 c2 p1 s1 p2 s2
        have hown1 : OwnR 55 wr B (.slice (some ⟨g, 0, none⟩) n cap) ((p ++ U1) ++ (U2 ++ (V1 ++ (V2 ++ q)))) := by
          rw [hU1, hU2, hV1, hV2, td, List.append_assoc, td]; exact hown
        have hk1 : U1.length + V1.length ≤ k := by omega
        have hk2 : U2.length + V2.length ≤ k := by omega
        have HL := hidP (And.intro hL (And.intro hk1 hk2))
        have HS := hidP hS
        have HAA := hidP hAA
        have HFin := hidP hfin
        have HO1 := hidP hown1
        have t1 : (j < m ∧ m < F) ∨ (¬ j < m) ∨ (j < m ∧ ¬ m < F) := by omega
        have t2 : (a < j ∧ j < M) ∨ (¬ a < j) ∨ (a < j ∧ ¬ j < M) := by omega
        have t3 : (M < F ∧ F < b) ∨ (¬ M < F) ∨ (M < F ∧ ¬ F < b) := by omega
        have hFn : F ≤ n := by omega
        have HP := hidP (show a = p.length from hF.1)
        clear hZ hF hL hS hAA hfin hown1 hk1 hk2 hU1 hU2 hV1 hV2 hInv hown hgr hB hijle hloi hjhi
        have key1 := fun (wx : World) (hx : 0 < U2.length) (hy : 0 < V1.length) (h : OwnR 55 wx B (.slice (some ⟨g, 0, none⟩) n cap) ((p ++ U1) ++ (U2 ++ (V1 ++ (V2 ++ q))))) => rotate_any (.func (.func 30) #[] #[]) g n cap B (p ++ U1) U2 V1 (V2 ++ q) j m F (by rw [List.length_append]; have := HL.out; omega) (by rw [List.length_append]; have := HL.out; omega) (by rw [List.length_append]; have := HL.out; omega) hx hy hn9 wx h
        have HK1 := hidP key1
        have key2 := fun (wx : World) (hx : 0 < U1.length) (hy : 0 < V1.length) (h : OwnR 55 wx B (.slice (some ⟨g, 0, none⟩) n cap) (p ++ (U1 ++ (V1 ++ (U2 ++ (V2 ++ q)))))) => HIH.out p U1 V1 (U2 ++ (V2 ++ q)) a j M HP.out (by have := HL.out; omega) (by have := HL.out; omega) HL.out.2.1 hx hy HAA.out.1 HAA.out.2.2.1 HS.out.1 HS.out.2.2.1 wx h
        have HK2 := hidP key2
        have key3 := fun (wx : World) (R1 : List Pf) (hR : R1.Perm (U1 ++ V1)) (hx : 0 < U2.length) (hy : 0 < V2.length) (h : OwnR 55 wx B (.slice (some ⟨g, 0, none⟩) n cap) ((p ++ R1) ++ (U2 ++ (V2 ++ q)))) => HIH.out (p ++ R1) U2 V2 q M F b (by have h1 := HL.out; have h2 := hR.length_eq; rw [List.length_append] at h2 ⊢; omega) (by have h1 := HL.out; have h2 := hR.length_eq; rw [List.length_append] at h2 ⊢; omega) (by have h1 := HL.out; have h2 := hR.length_eq; rw [List.length_append] at h2 ⊢; omega) HL.out.2.2 hx hy HAA.out.2.1 HAA.out.2.2.2 HS.out.2.1 HS.out.2.2.2 wx h
        have HK3 := hidP key3
        have HT1 := hidP t1
        have HT2 := hidP t2
        have HT3 := hidP t3
        clear key1 key2 key3 t1 t2 t3
        go_upto_region 39 with fail
        clear HZ hz hM hN hP e0 e1 hz0 hz9 hM9 hN9 hP9 ham hmb hbn hlo9 HB HHL HO HF HI HC HIH HA HSt HOr HOw hF9 hFn hlt hjn hin hFF
        clear e0b e1b
        try clear hmM
        try clear hmMb
        try clear hmMc
        try clear hmM'
        try clear hlo
        try clear hhi
        go_cut [185] from 25 (fun s wx => s = .bool (decide (j < m ∧ m < F)) ∧ wr = wx)
        case first => as_aux_lemma =>
          rcases HT1.out with ⟨c1, c2⟩ | c1 | ⟨c1, c2⟩
          · go_wp2_with fail
            go_meet
            case rel => exact ⟨by rw [decide_eq_true (show j < m ∧ m < F from ⟨c1, c2⟩)], rfl⟩
          · go_wp2_with fail
            go_meet
            case rel => exact ⟨by rw [decide_eq_false (show ¬ (j < m ∧ m < F) from fun h => c1 h.1)], rfl⟩
          · go_wp2_with fail
            go_meet
            case rel => exact ⟨by rw [decide_eq_false (show ¬ (j < m ∧ m < F) from fun h => c2 h.2)], rfl⟩
        obtain ⟨rfl, rfl⟩ := hcut
        go_upto_if 185 with fail
        go_cut [] from 25 (fun wx => OwnR 55 wx B (.slice (some ⟨g, 0, none⟩) n cap) (p ++ (U1 ++ (V1 ++ (U2 ++ (V2 ++ q))))) ∧ w.grownBy wx (some g))
        case first => as_aux_lemma =>
          by_cases hT : j < m ∧ m < F
          · rw [decide_eq_true hT]
            go_wp2_with fail
            refine (HK1.out _ (by have := HL.out; omega) (by have := HL.out; omega) HO1.out).mono ?_
            rintro e w2 ⟨⟨v2, rfl⟩, r3, g3⟩
            rw [List.append_assoc] at r3
            have HO2 := hidP r3
            have HG2 := hidP (HG.out.trans g3)
            clear r3 g3
            go_wp2_with fail
            go_meet
            case rel => exact ⟨HO2.out, HG2.out⟩
          · rw [decide_eq_false hT]
            have hE : U2 = [] ∨ V1 = [] := by
              have := HL.out
              rcases Nat.lt_or_ge j m with h | h
              · exact Or.inr (List.eq_nil_of_length_eq_zero (by omega))
              · exact Or.inl (List.eq_nil_of_length_eq_zero (by omega))
            have h3 : OwnR 55 wr B (.slice (some ⟨g, 0, none⟩) n cap) (p ++ (U1 ++ (V1 ++ (U2 ++ (V2 ++ q))))) := by
              have h := HO1.out
              rw [List.append_assoc] at h
              rcases hE with hE | hE
              · rw [hE] at h ⊢
                simpa only [List.nil_append] using h
              · rw [hE] at h ⊢
                simpa only [List.nil_append] using h
            have HO2 := hidP h3
            clear hE h3
            go_wp2_with fail
            go_meet
            case rel => exact ⟨HO2.out, HG.out⟩
        obtain ⟨h2, h2'⟩ := hcut
        obtain ⟨w5, hw5⟩ : ∃ x, x = wc := ⟨_, rfl⟩
        rw [← hw5] at h2 h2' ⊢
        clear hw5
        have HO2 := hidP h2
        have HG2 := hidP h2'
        clear h2 h2' HO1 HG HK1 HT1
        go_upto_region 41 with fail
        go_cut [199] from 25 (fun s wx => s = .bool (decide (a < j ∧ j < M)) ∧ w5 = wx)
        case first => as_aux_lemma =>
          rcases HT2.out with ⟨c1, c2⟩ | c1 | ⟨c1, c2⟩
          · go_wp2_with fail
            go_meet
            case rel => exact ⟨by rw [decide_eq_true (show a < j ∧ j < M from ⟨c1, c2⟩)], rfl⟩
          · go_wp2_with fail
            go_meet
            case rel => exact ⟨by rw [decide_eq_false (show ¬ (a < j ∧ j < M) from fun h => c1 h.1)], rfl⟩
          · go_wp2_with fail
            go_meet
            case rel => exact ⟨by rw [decide_eq_false (show ¬ (a < j ∧ j < M) from fun h => c2 h.2)], rfl⟩
        obtain ⟨rfl, rfl⟩ := hcut
        go_upto_if 199 with fail
        go_cut [] from 25 (fun wx => ∃ R1, R1.Perm (U1 ++ V1) ∧ Srt c R1 ∧ OwnR 55 wx B (.slice (some ⟨g, 0, none⟩) n cap) ((p ++ R1) ++ (U2 ++ (V2 ++ q))) ∧ w.grownBy wx (some g))
        case first => as_aux_lemma =>
          by_cases hT : a < j ∧ j < M
          · rw [decide_eq_true hT]
            go_wp2_with fail
            refine (HK2.out _ (by have := HL.out; have := HP.out; omega) (by have := HL.out; omega) HO2.out).mono ?_
            rintro e w3 ⟨⟨v3, rfl⟩, ⟨R1, r1, r2, r3⟩, g3⟩
            rw [← List.append_assoc p R1] at r3
            have HE : ∃ R1, R1.Perm (U1 ++ V1) ∧ Srt c R1 ∧ OwnR 55 w3 B (.slice (some ⟨g, 0, none⟩) n cap) ((p ++ R1) ++ (U2 ++ (V2 ++ q))) ∧ w.grownBy w3 (some g) := ⟨R1, r1, r2, r3, HG2.out.trans g3⟩
            have HE := hidP HE
            clear r1 r2 r3 g3
            go_wp2_with fail
            go_meet
            case rel => exact HE.out
          · rw [decide_eq_false hT]
            have hE : U1 = [] ∨ V1 = [] := by
              have := HL.out
              have := HP.out
              rcases Nat.lt_or_ge a j with h | h
              · exact Or.inr (List.eq_nil_of_length_eq_zero (by omega))
              · exact Or.inl (List.eq_nil_of_length_eq_zero (by omega))
            have hE2 : Srt c (U1 ++ V1) := by
              rcases hE with hE | hE
              · rw [hE, List.nil_append]; exact HS.out.2.2.1
              · rw [hE, List.append_nil]; exact HS.out.1
            have HE : ∃ R1, R1.Perm (U1 ++ V1) ∧ Srt c R1 ∧ OwnR 55 w5 B (.slice (some ⟨g, 0, none⟩) n cap) ((p ++ R1) ++ (U2 ++ (V2 ++ q))) ∧ w.grownBy w5 (some g) := ⟨U1 ++ V1, List.Perm.refl _, hE2, by have h := HO2.out; simp only [List.append_assoc] at h ⊢; exact h, HG2.out⟩
            have HE := hidP HE
            clear hE hE2
            go_wp2_with fail
            go_meet
            case rel => exact HE.out
        obtain ⟨R1, r1, r2, r3, r4⟩ := hcut
        obtain ⟨w6, hw6⟩ : ∃ x, x = wc := ⟨_, rfl⟩
        rw [← hw6] at r3 r4 ⊢
        clear hw6
        have HR1 := hidP (And.intro r1 r2)
        have HO3 := hidP r3
        have HG3 := hidP r4
        clear r1 r2 r3 r4 HO2 HG2 HK2 HT2
        go_upto_region 43 with fail
        go_cut [213] from 25 (fun s wx => s = .bool (decide (M < F ∧ F < b)) ∧ w6 = wx)
        case first => as_aux_lemma =>
          rcases HT3.out with ⟨c1, c2⟩ | c1 | ⟨c1, c2⟩
          · go_wp2_with fail
            go_meet
            case rel => exact ⟨by rw [decide_eq_true (show M < F ∧ F < b from ⟨c1, c2⟩)], rfl⟩
          · go_wp2_with fail
            go_meet
            case rel => exact ⟨by rw [decide_eq_false (show ¬ (M < F ∧ F < b) from fun h => c1 h.1)], rfl⟩
          · go_wp2_with fail
            go_meet
            case rel => exact ⟨by rw [decide_eq_false (show ¬ (M < F ∧ F < b) from fun h => c2 h.2)], rfl⟩
        obtain ⟨rfl, rfl⟩ := hcut
        by_cases hT : M < F ∧ F < b
        · rw [decide_eq_true hT]
          go_wp2_with fail
          refine (HK3.out _ R1 HR1.out.1 (by have := HL.out; omega) (by have := HL.out; omega) HO3.out).mono ?_
          rintro e w4 ⟨⟨v4, rfl⟩, ⟨R2, r1, r2, r3⟩, g4⟩
          have HE : ∃ R, R.Perm (U ++ V) ∧ Srt c R ∧ OwnR 55 w4 B (.slice (some ⟨g, 0, none⟩) n cap) (p ++ (R ++ q)) := ⟨R1 ++ R2, (HFin.out R1 R2 HR1.out.1 HR1.out.2 r1 r2).1, (HFin.out R1 R2 HR1.out.1 HR1.out.2 r1 r2).2, by have h := r3; simp only [List.append_assoc] at h ⊢; exact h⟩
          have HE := hidP HE
          have HG4 := hidP (HG3.out.trans g4)
          clear r1 r2 r3 g4
          go_wp2_with fail
          exact bodyPost_end (v := .tuple #[]) (by simp [results, Try.results90]) rfl ⟨⟨_, rfl⟩, HE.out, HG4.out⟩
        · rw [decide_eq_false hT]
          have hE : U2 = [] ∨ V2 = [] := by
            have := HL.out
            rcases Nat.lt_or_ge M F with h | h
            · exact Or.inr (List.eq_nil_of_length_eq_zero (by omega))
            · exact Or.inl (List.eq_nil_of_length_eq_zero (by omega))
          have hE2 : Srt c (U2 ++ V2) := by
            rcases hE with hE | hE
            · rw [hE, List.nil_append]; exact HS.out.2.2.2
            · rw [hE, List.append_nil]; exact HS.out.2.1
          have HE := hidP (HFin.out R1 (U2 ++ V2) HR1.out.1 HR1.out.2 (List.Perm.refl _) hE2)
          clear hE hE2
          go_wp2_with fail
          exact bodyPost_end (v := .tuple #[]) (by simp [results, Try.results90]) rfl ⟨⟨_, rfl⟩, ⟨R1 ++ (U2 ++ V2), HE.out.1, HE.out.2, by have h := HO3.out; simp only [List.append_assoc] at h ⊢; exact h⟩, HG3.out⟩

end Go.Proofs.Ytgohffeneibhdaa
