/-
  For every code the law FnCollapsed answers yes: drawn prefixes collapsed hold each of them, overlap nowhere, and collapse no more; no condition.
-/
import Derived.Test.YtgohffeneibhdaaMW3
import Derived.Test.YtgohffeneibhdaaKColl
import Derived.Test.YtgohffeneibhdaaLCollapse
import Derived.Test.YtgohffeneibhdaaBIOver
import Derived.Test.YtgohffeneibhdaaWLift
namespace Go.Proofs.Ytgohffeneibhdaa
open Go.ChangeShapes Go.WideShapes Go.ChangeAt Go.RowKit Go.Joins Go.Deep

theorem iCmpF_any (p q : Pf) (hp : okS p) (hq : okS q) (w : World) : Calls Try.prog 11 #[.agg #[.bool p.s, .int .i64 p.H.toInt, .int .i64 p.L.toInt, .int .i64 p.b], .agg #[.bool q.s, .int .i64 q.H.toInt, .int .i64 q.L.toInt, .int .i64 q.b]] w fun e w' => e = .returned (.int .i64 (cmpF p q)) ∧ Below w.heap.size w w' :=
  iCmpPrefix_any p.s p.H.toInt p.L.toInt p.b q.s q.H.toInt q.L.toInt q.b _ (cmp_ok p.s p.H p.L q.s q.H q.L hp hq).2 w
/-- What the law wants to know of a row R that a row ps was collapsed to. -/
structure FcP (ps R : List Pf) : Prop where
  len : R.length ≤ 300
  imp : ∀ (a : Option Addr) (n c : Nat) (w : World), n = ps.length → Row w a ps → Calls Try.prog 8 #[.slice a n c] w fun e w' => ∃ a' c', e = .returned (.slice a' R.length c') ∧ OwnR 31 w' w.heap.size (.slice a' R.length c') R ∧ Below w.heap.size w w'
  spc : ∀ (a : Option Addr) (n c : Nat) (w : World), n = ps.length → Row w a ps → Calls Try.prog 9 #[.slice a n c] w fun e w' => ∃ a' c', e = .returned (.slice a' R.length c') ∧ OwnR 31 w' w.heap.size (.slice a' R.length c') R ∧ Below w.heap.size w w'
  agn : ∀ (a : Option Addr) (n c : Nat) (w : World), n = R.length → Row w a R → Calls Try.prog 8 #[.slice a n c] w fun e w' => ∃ a' c', e = .returned (.slice a' R.length c') ∧ OwnR 31 w' w.heap.size (.slice a' R.length c') R ∧ Below w.heap.size w w'
  ok : ∀ p ∈ R, okS p
  pair : ∀ (i k : Nat) (x y : Pf), k < i → R[i]? = some x → R[k]? = some y → (winF x y || winF y x) = false ∧ cmpF y x < 0
  into : 0 < R.length → ∀ p ∈ ps, R.any (winF p) = true
theorem cmpF_neg {x y : Pf} (h : keyS x < keyS y) : cmpF x y < 0 := by
  unfold cmpF orI cmpW
  have h1 : (keyS x : Int) < (keyS y : Int) := by omega
  simp [h1]
theorem fc_of (ps : List Pf) (hl : ps.length ≤ 1048576) : ∃ R, FcP ps R := by
  cases hr : rightP ps
  · have h0 : rightP [] = true := rfl
    obtain ⟨ys, hp, hs, cS, cI⟩ := coll_both [] (fun _ h => by cases h) (by simp)
    have hy : ys = [] := List.Perm.eq_nil hp
    subst hy
    exact ⟨[], ⟨by simp, fun a n c w hn hB => (iColl_no a n c ps hn (by omega) hr w hB).mono fun e w' ⟨g, he, ho, hb⟩ => ⟨_, _, he, ho, hb⟩, fun a n c w hn hB => sColl_no a n c ps hn (by omega) hr w hB, fun a n c w hn hB => cI a n c w hn hB, (fun _ h => by cases h), (fun i k x y _ h => by simp at h), (fun h => by simp at h)⟩⟩
  · have h2 := hr
    unfold rightP at h2
    rw [Bool.and_eq_true, decide_eq_true_eq] at h2
    obtain ⟨xs, hxs, rfl⟩ := pre_list ps h2.1
    have hl3 : xs.length ≤ 300 := by have := h2.2; rw [List.length_map] at this; exact this
    obtain ⟨ys, hp, hs, cS, cI⟩ := coll_both xs hxs hl3
    obtain ⟨q1, q2, q3, q4, q5⟩ := coll_all xs ys hxs hp hs
    have hcl := coll_len ys (fun y hym => hxs y (hp.mem_iff.1 hym))
    have hpl := hp.length_eq
    have hok : ∀ p ∈ (collP ys).map Sp.pre, okS p := fun p hpm => by
      obtain ⟨x, hxm, rfl⟩ := List.mem_map.1 hpm
      exact (q1 x hxm).1
    refine ⟨(collP ys).map Sp.pre, ⟨by rw [List.length_map]; omega, ?_, ?_, ?_, hok, ?_, ?_⟩⟩
    · intro a n c w hn hB
      rw [List.length_map] at hn ⊢
      exact cI a n c w hn hB
    · intro a n c w hn hB
      rw [List.length_map] at hn ⊢
      exact cS a n c w hn hB
    · intro a n c w hn hB
      rw [List.length_map] at hn ⊢
      refine (iColl_yes (collP ys) (collP ys) q1 (by omega) (List.Perm.refl _) q4 a n c hn w hB).mono ?_
      rintro e w' ⟨g, he, ho, hb⟩
      rw [q5] at he ho
      exact ⟨_, _, he, ho, hb⟩
    · intro i k x y hki hx hy
      rw [List.getElem?_map] at hx hy
      cases hxi : (collP ys)[i]? with
      | none => rw [hxi] at hx; cases hx
      | some u =>
        cases hyk : (collP ys)[k]? with
        | none => rw [hyk] at hy; cases hy
        | some v =>
          rw [hxi] at hx
          rw [hyk] at hy
          cases hx
          cases hy
          have hu := q1 u (List.mem_of_getElem? hxi)
          have hv := q1 v (List.mem_of_getElem? hyk)
          obtain ⟨hil, hie⟩ := List.getElem?_eq_some_iff.1 hxi
          obtain ⟨hkl, hke⟩ := List.getElem?_eq_some_iff.1 hyk
          have hap := (List.pairwise_iff_getElem.1 q2) k i hkl hil hki
          rw [hie, hke] at hap
          obtain ⟨w1, w2⟩ := apart_no hu hv hap
          have e1 : winF u.pre v.pre = false := (win_wB hu hv).trans w1
          have e2 : winF v.pre u.pre = false := (win_wB hv hu).trans w2
          refine ⟨by rw [e1, e2]; rfl, cmpF_neg ?_⟩
          have := keyE_lt v
          show keyP v < keyP u
          omega
    · intro _ p hpm
      obtain ⟨x, hxm, rfl⟩ := List.mem_map.1 hpm
      obtain ⟨u, hu, hw⟩ := q3 x hxm
      rw [List.any_eq_true]
      exact ⟨u.pre, List.mem_map.2 ⟨u, hu, rfl⟩, (win_wB (hxs x hxm) (q1 u hu)).trans hw⟩

set_option maxRecDepth 10000 in
set_option maxHeartbeats 16000000 in
theorem lawColl9 (a : Option Addr) (len cap : Nat) (w : World) (hB : Bytes w a len) (hl : len ≤ 1048576) :
    Calls Try.prog 3 #[.slice a len cap] w fun e w' => e = .returned (.bool true) ∧ Below w.heap.size w w' := by
  have HBy := hidP hB
  clear hB
  have hbig : ∀ wx : World, Calls Try.prog 6 #[.slice a len cap] wx fun e w' => e = .returned (.bool false) ∧ wx = w' := fun wx => by
    have d : decide ((1048576 : Int) < (len : Int)) = false := decide_eq_false (by omega)
    go_enter Try.func6, Try.ntmps6
    go_wp2
    go_ret
    exact ⟨rfl, rfl⟩
  have HG := hidP hbig
  clear hbig
  go_enter Try.func3, Try.ntmps3
  go_wp2_with fail
  refine (HG.out _).mono ?_
  rintro e w0 ⟨rfl, rfl⟩
  go_wp2_with fail
  refine (drawCollapse_any a len cap w HBy.out hl).mono ?_
  rintro e w1 ⟨a3, n, c3, ps, hn, hn9, rfl, ho3, hb1⟩
  obtain ⟨R, fc⟩ := fc_of ps (by omega)
  obtain ⟨m, hm⟩ : ∃ m, m = R.length := ⟨_, rfl⟩
  have hm9 : m ≤ 300 := by rw [hm]; exact fc.len
  have HFc := hidP fc
  have HI1 := hidP (fc.imp a3 n c3 w1 hn ho3.row)
  have HS1 := hidP (fun W h => fc.spc a3 n c3 W hn (ho3.row.later h))
  have HAg := hidP fc.agn
  have HR3 := hidP ho3.row
  have HB1 := hidP hb1
  have HN := hidP (And.intro hn hm)
  clear fc ho3 hb1 hn HBy HG hl
  rw [← hm] at HI1 HS1 HAg
  clear hm
  go_wp2_with fail
  refine HI1.out.mono ?_
  rintro e w2 ⟨a4, c4, rfl, ho4, hb2⟩
  have HR4 := hidP ho4.row
  have HB2 := hidP hb2
  clear ho4 hb2 HI1
  go_wp2_with fail
  refine (HS1.out w2 HB2.out).mono ?_
  rintro e w3 ⟨a5, c5, rfl, _, hb3⟩
  have HL := hidP (HR4.out.later hb3)
  have HP := hidP (HR3.out.later (HB2.out.trans (hb3.mono HB2.out.size)))
  have HB3 := hidP ((HB1.out.trans (HB2.out.mono HB1.out.size)).trans (hb3.mono (Nat.le_trans HB1.out.size HB2.out.size)))
  have hne : ((m : Int) != (m : Int)) = false := by simp
  clear hb3 HR3 HR4 HB1 HB2 HS1
  go_wp2_with fail
  go_loopw [5] (fun t5 wr => ∃ i : Nat, i ≤ m ∧ t5 = .int .i64 i ∧ Below w3.heap.size w3 wr) (fun t5 _ => m - (intOf t5).toNat)
  case atStart => exact ⟨0, Nat.zero_le _, rfl, Below.refl _ _⟩
  case round =>
    obtain ⟨i, hi, rfl, hbw⟩ := hrel
    have HW := hidP hbw
    clear hbw
    by_cases hlt : i < m
    · have hlt' : (i : Int) < (m : Int) := by omega
      go_wp2_with fail
      go_loopw [6] (fun t6 wr => ∃ k : Nat, k ≤ i ∧ t6 = .int .i64 k ∧ Below w3.heap.size w3 wr) (fun t6 _ => i - (intOf t6).toNat)
      case atStart => exact ⟨0, Nat.zero_le _, rfl, HW.out⟩
      case round =>
        obtain ⟨k, hk, rfl, hbw⟩ := hrel
        obtain ⟨W, hW⟩ : ∃ z, z = wr := ⟨_, rfl⟩
        rw [← hW] at hbw ⊢
        clear hW HW
        have HW := hidP hbw
        clear hbw
        by_cases hki : k < i
        · obtain ⟨p4, o4, xe, rfl, hpl, hxe, x0, x1, x2, x3⟩ := (HL.out.later HW.out) i (by rw [← HN.out.2]; exact hlt)
          obtain ⟨p5, o5, ye, hpe, _, hye, y0, y1, y2, y3⟩ := (HL.out.later HW.out) k (by rw [← HN.out.2]; omega)
          simp at hpe
          obtain ⟨rfl, rfl⟩ := hpe
          obtain ⟨hov, hcm⟩ := HFc.out.pair i k xe ye hki hxe hye
          have HOv := hidP (fun W => iOverlaps_any xe.s xe.H xe.L xe.b ye.s ye.H ye.L ye.b W)
          have HCm := hidP (fun W => iCmpF_any ye xe (HFc.out.ok ye (List.mem_of_getElem? hye)) (HFc.out.ok xe (List.mem_of_getElem? hxe)) W)
          have hov' : (winB xe.s xe.H xe.L xe.b ye.s ye.H ye.L ye.b || winB ye.s ye.H ye.L ye.b xe.s xe.H xe.L xe.b) = false := hov
          rw [hov'] at HOv
          generalize cmpF ye xe = cc at *
          have d1 : decide (0 ≤ cc) = false := decide_eq_false (by omega)
          have d2 : ¬ (0 ≤ cc) := by omega
          have d3 : (k : Int) < (i : Int) := by omega
          have d4 : k < m := by omega
          have d5 : (k : Int) < (m : Int) := by omega
          clear hov hov' hxe hye hcm
          go_upto_region 13 with fail
          have HSx : Hid (∀ x, Below W.heap.size W x → (x.cell? ⟨p4, o4 + i * 4, none⟩ = some (.bool xe.s) ∧ x.cell? ⟨p4, o4 + i * 4 + 1, none⟩ = some (.int .i64 xe.H.toInt) ∧ x.cell? ⟨p4, o4 + i * 4 + 2, none⟩ = some (.int .i64 xe.L.toInt) ∧ x.cell? ⟨p4, o4 + i * 4 + 3, none⟩ = some (.int .i64 xe.b) ∧ x.cell? ⟨p4, o4 + k * 4, none⟩ = some (.bool ye.s) ∧ x.cell? ⟨p4, o4 + k * 4 + 1, none⟩ = some (.int .i64 ye.H.toInt) ∧ x.cell? ⟨p4, o4 + k * 4 + 2, none⟩ = some (.int .i64 ye.L.toInt) ∧ x.cell? ⟨p4, o4 + k * 4 + 3, none⟩ = some (.int .i64 ye.b) ∧ Below W.heap.size W x)) := hidP fun x h =>
            ⟨(h.cell hpl).trans x0, (h.cell hpl).trans x1, (h.cell hpl).trans x2, (h.cell hpl).trans x3, (h.cell hpl).trans y0, (h.cell hpl).trans y1, (h.cell hpl).trans y2, (h.cell hpl).trans y3, h⟩
          refine wp_region_held_drew (S := (fun x => x.cell? ⟨p4, o4 + i * 4, none⟩ = some (.bool xe.s) ∧ x.cell? ⟨p4, o4 + i * 4 + 1, none⟩ = some (.int .i64 xe.H.toInt) ∧ x.cell? ⟨p4, o4 + i * 4 + 2, none⟩ = some (.int .i64 xe.L.toInt) ∧ x.cell? ⟨p4, o4 + i * 4 + 3, none⟩ = some (.int .i64 xe.b) ∧ x.cell? ⟨p4, o4 + k * 4, none⟩ = some (.bool ye.s) ∧ x.cell? ⟨p4, o4 + k * 4 + 1, none⟩ = some (.int .i64 ye.H.toInt) ∧ x.cell? ⟨p4, o4 + k * 4 + 2, none⟩ = some (.int .i64 ye.L.toInt) ∧ x.cell? ⟨p4, o4 + k * 4 + 3, none⟩ = some (.int .i64 ye.b) ∧ Below W.heap.size W x)) (by kernel_rfl) ?_ (fun hHeld => ?_)
          · try dsimp only
            exact HSx.out _ ((Below.refl _ _).drew)
          refine tk 0 35 rfl ?_
          simp only [pa]
          refine tk 1 36 rfl ?_
          simp only [pa]
          refine tk 2 37 rfl ?_
          simp only [pa]
          refine tk 3 38 rfl ?_
          simp only [pa]
          refine tk 4 39 rfl ?_
          simp only [pa]
          refine tk 5 40 rfl ?_
          simp only [pa]
          refine tk 6 41 rfl ?_
          simp only [pa]
          refine tk 7 42 rfl ?_
          simp only [pa]
          refine wpAnyH_ready (rs := [8]) (by kernel_rfl) (by simp) ?_
          refine AllReadyH.cons rfl (fun K hK => ?_) AllReadyH.nil
          go_simp
          go_wp2_with (first | (go_at_call 10; refine (HOv.out _).mono ?_; rintro e w7 ⟨rfl, hb7⟩; have b7 := (hHeld.2.2.2.2.2.2.2.2).trans (hb7.mono (hHeld.2.2.2.2.2.2.2.2).size)))
          refine hK.out _ _ ?_ (fun hHeld => ?_)
          · try dsimp only
            exact HSx.out _ b7
          clear hK K
          refine tk 9 44 rfl ?_
          simp only [pa]
          refine tk 10 45 rfl ?_
          simp only [pa]
          refine tk 11 46 rfl ?_
          simp only [pa]
          refine tk 12 47 rfl ?_
          simp only [pa]
          refine tk 13 48 rfl ?_
          simp only [pa]
          refine tk 14 49 rfl ?_
          simp only [pa]
          refine tk 15 50 rfl ?_
          simp only [pa]
          refine tk 16 51 rfl ?_
          simp only [pa]
          refine tk 17 52 rfl ?_
          simp only [pa]
          refine wpAnyH_ready (rs := [18]) (by kernel_rfl) (by simp) ?_
          refine AllReadyH.cons rfl (fun K hK => ?_) AllReadyH.nil
          go_simp
          go_wp2_with (first | (go_at_call 11; refine (HCm.out _).mono ?_; rintro e w8 ⟨rfl, hb8⟩; have b8 := (hHeld.2.2.2.2.2.2.2.2).trans (hb8.mono (hHeld.2.2.2.2.2.2.2.2).size)))
          refine hK.out _ _ ?_ (fun hHeld => ?_)
          · try dsimp only
            exact HSx.out _ b8
          clear hK K
          refine tk 19 54 rfl ?_
          simp only [pa]
          refine tk 20 55 rfl ?_
          simp only [pa]
          have HE := hidP (hHeld.2.2.2.2.2.2.2.2)
          refine wpAnyH_done (by kernel_rfl) ?_ _
          clear hHeld
          have HE2 := hidP (HW.out.trans (HE.out.mono HW.out.size))
          clear HE x0 x1 x2 x3 y0 y1 y2 y3
          go_wp2_with fail
          go_roundw
          case rel => exact ⟨k + 1, by omega, by go_num, HE2.out⟩
          case measure => simp [intOf]; omega
        · go_wp2_with fail
          go_roundw
          case rel => exact ⟨i + 1, by omega, by go_num, HW.out⟩
          case measure => simp [intOf]; omega
    · have him : i = m := by omega
      subst him
      go_wp2_with fail
      obtain ⟨W5, hW5⟩ : ∃ z, z = wr := ⟨_, rfl⟩
      rw [← hW5] at HW ⊢
      clear hW5
      have HL5 := hidP (HL.out.later HW.out)
      have HP5 := hidP (HP.out.later HW.out)
      have HB5 := hidP (HB3.out.trans (HW.out.mono HB3.out.size))
      clear HL HP HB3 HW hlt hi
      go_loopw [7] (fun t7 wr => ∃ j : Nat, j ≤ n ∧ t7 = .int .i64 j ∧ Below W5.heap.size W5 wr) (fun t7 _ => n - (intOf t7).toNat)
      case atStart => exact ⟨0, Nat.zero_le _, rfl, Below.refl _ _⟩
      case round =>
        obtain ⟨j, hj, rfl, hbw⟩ := hrel
        have HW := hidP hbw
        clear hbw
        by_cases hgo : j < n ∧ 0 < i
        · obtain ⟨hjn, hi0⟩ := hgo
          have g1 : decide ((j : Int) < (n : Int)) = true := decide_eq_true (by omega)
          have g2 : decide ((0 : Int) < (i : Int)) = true := decide_eq_true (by omega)
          obtain ⟨p4, o4, xe, rfl, hpl, hxe, u0, u1, u2, u3⟩ := HP5.out j (by rw [← HN.out.1]; exact hjn)
          have HIn := hidP (HFc.out.into (by rw [← HN.out.2]; exact hi0) xe (List.mem_of_getElem? hxe))
          clear hxe
          go_wp2_with fail
          go_loopw [8, 9] (fun t8 t9 wr => ∃ k : Nat, k ≤ i ∧ t8 = .bool ((R.take k).any (winF xe)) ∧ t9 = .int .i64 k ∧ Below W5.heap.size W5 wr) (fun _ t9 _ => i - (intOf t9).toNat)
          case atStart => exact ⟨0, Nat.zero_le _, by simp, rfl, HW.out⟩
          case round =>
            obtain ⟨k, hk, rfl, rfl, hbw⟩ := hrel
            obtain ⟨W, hW⟩ : ∃ z, z = wr := ⟨_, rfl⟩
            rw [← hW] at hbw ⊢
            clear hW HW
            have HW := hidP hbw
            have x0 := (hbw.cell hpl).trans u0
            have x1 := (hbw.cell hpl).trans u1
            have x2 := (hbw.cell hpl).trans u2
            have x3 := (hbw.cell hpl).trans u3
            have hpl2 : p4 < W.heap.size := Nat.lt_of_lt_of_le hpl hbw.size
            clear hbw
            by_cases hki : k < i
            · obtain ⟨p5, o5, ye, rfl, hql, hye, y0, y1, y2, y3⟩ := (HL5.out.later HW.out) k (by rw [← HN.out.2]; exact hki)
              have HWi := hidP (fun W => iWithin_any xe.s xe.H xe.L xe.b ye.s ye.H ye.L ye.b W)
              have hnx : (R.take (k + 1)).any (winF xe) = ((R.take k).any (winF xe) || winF xe ye) := by
                rw [List.take_add_one, hye, List.any_append]; simp
              have hnx' : (R.take (k + 1)).any (winF xe) = ((R.take k).any (winF xe) || winB xe.s xe.H xe.L xe.b ye.s ye.H ye.L ye.b) := hnx
              have HNx := hidP hnx'
              clear hnx hnx' hye
              have d5 : (k : Int) < (i : Int) := by omega
              have d6 : (j : Int) < (n : Int) := by omega
              generalize (R.take k).any (winF xe) = bb at *
              generalize winB xe.s xe.H xe.L xe.b ye.s ye.H ye.L ye.b = rr at *
              go_upto_region 22 with fail
              cases bb
              · skip
                have HSx : Hid (∀ x, Below W.heap.size W x → (x.cell? ⟨p4, o4 + j * 4, none⟩ = some (.bool xe.s) ∧ x.cell? ⟨p4, o4 + j * 4 + 1, none⟩ = some (.int .i64 xe.H.toInt) ∧ x.cell? ⟨p4, o4 + j * 4 + 2, none⟩ = some (.int .i64 xe.L.toInt) ∧ x.cell? ⟨p4, o4 + j * 4 + 3, none⟩ = some (.int .i64 xe.b) ∧ x.cell? ⟨p5, o5 + k * 4, none⟩ = some (.bool ye.s) ∧ x.cell? ⟨p5, o5 + k * 4 + 1, none⟩ = some (.int .i64 ye.H.toInt) ∧ x.cell? ⟨p5, o5 + k * 4 + 2, none⟩ = some (.int .i64 ye.L.toInt) ∧ x.cell? ⟨p5, o5 + k * 4 + 3, none⟩ = some (.int .i64 ye.b) ∧ Below W.heap.size W x)) := hidP fun x h =>
                  ⟨(h.cell hpl2).trans x0, (h.cell hpl2).trans x1, (h.cell hpl2).trans x2, (h.cell hpl2).trans x3, (h.cell hql).trans y0, (h.cell hql).trans y1, (h.cell hql).trans y2, (h.cell hql).trans y3, h⟩
                refine wp_region_held_drew (S := (fun x => x.cell? ⟨p4, o4 + j * 4, none⟩ = some (.bool xe.s) ∧ x.cell? ⟨p4, o4 + j * 4 + 1, none⟩ = some (.int .i64 xe.H.toInt) ∧ x.cell? ⟨p4, o4 + j * 4 + 2, none⟩ = some (.int .i64 xe.L.toInt) ∧ x.cell? ⟨p4, o4 + j * 4 + 3, none⟩ = some (.int .i64 xe.b) ∧ x.cell? ⟨p5, o5 + k * 4, none⟩ = some (.bool ye.s) ∧ x.cell? ⟨p5, o5 + k * 4 + 1, none⟩ = some (.int .i64 ye.H.toInt) ∧ x.cell? ⟨p5, o5 + k * 4 + 2, none⟩ = some (.int .i64 ye.L.toInt) ∧ x.cell? ⟨p5, o5 + k * 4 + 3, none⟩ = some (.int .i64 ye.b) ∧ Below W.heap.size W x)) (by kernel_rfl) ?_ (fun hHeld => ?_)
                · try dsimp only
                  exact HSx.out _ ((Below.refl _ _).drew)
                refine tk 0 73 rfl ?_
                simp only [pa]
                refine tk 1 74 rfl ?_
                simp only [pa]
                refine tk 2 75 rfl ?_
                simp only [pa]
                refine tk 3 76 rfl ?_
                simp only [pa]
                refine tk 4 77 rfl ?_
                simp only [pa]
                refine tk 5 78 rfl ?_
                simp only [pa]
                refine tk 6 79 rfl ?_
                simp only [pa]
                refine tk 7 80 rfl ?_
                simp only [pa]
                refine tk 8 81 rfl ?_
                simp only [pa]
                refine tk 9 82 rfl ?_
                simp only [pa]
                refine wpAnyH_ready (rs := [10]) (by kernel_rfl) (by simp) ?_
                refine AllReadyH.cons rfl (fun K hK => ?_) AllReadyH.nil
                go_simp
                go_wp2_with (first | (go_at_call 12; refine (HWi.out _).mono ?_; rintro e w7 ⟨rfl, hb7⟩; have b7 := (hHeld.2.2.2.2.2.2.2.2).trans (hb7.mono (hHeld.2.2.2.2.2.2.2.2).size)))
                refine hK.out _ _ ?_ (fun hHeld => ?_)
                · try dsimp only
                  exact HSx.out _ b7
                clear hK K
                refine tk 11 84 rfl ?_
                simp only [pa]
                refine tk 12 8 rfl ?_
                simp only [pa]
                have HE := hidP (hHeld.2.2.2.2.2.2.2.2)
                refine wpAnyH_done (by kernel_rfl) ?_ _
                clear hHeld
                have HE2 := hidP (HW.out.trans (HE.out.mono HW.out.size))
                clear HE x0 x1 x2 x3 y0 y1 y2 y3
                go_wp2_with fail
                go_roundw
                case rel => exact ⟨k + 1, by omega, by rw [HNx.out, Bool.false_or], by go_num, HE2.out⟩
                case measure => simp [intOf]; omega
              · skip
                have HSx : Hid (∀ x, Below W.heap.size W x → (x.cell? ⟨p4, o4 + j * 4, none⟩ = some (.bool xe.s) ∧ x.cell? ⟨p4, o4 + j * 4 + 1, none⟩ = some (.int .i64 xe.H.toInt) ∧ x.cell? ⟨p4, o4 + j * 4 + 2, none⟩ = some (.int .i64 xe.L.toInt) ∧ x.cell? ⟨p4, o4 + j * 4 + 3, none⟩ = some (.int .i64 xe.b) ∧ x.cell? ⟨p5, o5 + k * 4, none⟩ = some (.bool ye.s) ∧ x.cell? ⟨p5, o5 + k * 4 + 1, none⟩ = some (.int .i64 ye.H.toInt) ∧ x.cell? ⟨p5, o5 + k * 4 + 2, none⟩ = some (.int .i64 ye.L.toInt) ∧ x.cell? ⟨p5, o5 + k * 4 + 3, none⟩ = some (.int .i64 ye.b) ∧ Below W.heap.size W x)) := hidP fun x h =>
                  ⟨(h.cell hpl2).trans x0, (h.cell hpl2).trans x1, (h.cell hpl2).trans x2, (h.cell hpl2).trans x3, (h.cell hql).trans y0, (h.cell hql).trans y1, (h.cell hql).trans y2, (h.cell hql).trans y3, h⟩
                refine wp_region_held_drew (S := (fun x => x.cell? ⟨p4, o4 + j * 4, none⟩ = some (.bool xe.s) ∧ x.cell? ⟨p4, o4 + j * 4 + 1, none⟩ = some (.int .i64 xe.H.toInt) ∧ x.cell? ⟨p4, o4 + j * 4 + 2, none⟩ = some (.int .i64 xe.L.toInt) ∧ x.cell? ⟨p4, o4 + j * 4 + 3, none⟩ = some (.int .i64 xe.b) ∧ x.cell? ⟨p5, o5 + k * 4, none⟩ = some (.bool ye.s) ∧ x.cell? ⟨p5, o5 + k * 4 + 1, none⟩ = some (.int .i64 ye.H.toInt) ∧ x.cell? ⟨p5, o5 + k * 4 + 2, none⟩ = some (.int .i64 ye.L.toInt) ∧ x.cell? ⟨p5, o5 + k * 4 + 3, none⟩ = some (.int .i64 ye.b) ∧ Below W.heap.size W x)) (by kernel_rfl) ?_ (fun hHeld => ?_)
                · try dsimp only
                  exact HSx.out _ ((Below.refl _ _).drew)
                refine tk 0 73 rfl ?_
                simp only [pa]
                refine tk 1 74 rfl ?_
                simp only [pa]
                refine sk 2 75 rfl ?_
                simp only [pa]
                refine sk 3 76 rfl ?_
                simp only [pa]
                refine sk 4 77 rfl ?_
                simp only [pa]
                refine sk 5 78 rfl ?_
                simp only [pa]
                refine sk 6 79 rfl ?_
                simp only [pa]
                refine sk 7 80 rfl ?_
                simp only [pa]
                refine sk 8 81 rfl ?_
                simp only [pa]
                refine sk 9 82 rfl ?_
                simp only [pa]
                refine sk 10 83 rfl ?_
                simp only [pa]
                refine tk 11 84 rfl ?_
                simp only [pa]
                refine tk 12 8 rfl ?_
                simp only [pa]
                have HE := hidP (hHeld.2.2.2.2.2.2.2.2)
                refine wpAnyH_done (by kernel_rfl) ?_ _
                clear hHeld
                have HE2 := hidP (HW.out.trans (HE.out.mono HW.out.size))
                clear HE x0 x1 x2 x3 y0 y1 y2 y3
                go_wp2_with fail
                go_roundw
                case rel => exact ⟨k + 1, by omega, by rw [HNx.out, Bool.true_or], by go_num, HE2.out⟩
                case measure => simp [intOf]; omega
            · have hkm : k = i := by omega
              subst hkm
              have hin := HIn.out
              rw [← List.take_length (l := R), ← HN.out.2] at hin
              have HIn2 := hidP hin
              rw [hin]
              clear hin
              go_wp2_with fail
              go_roundw
              case rel => exact ⟨j + 1, by omega, by go_num, HW.out⟩
              case measure => simp [intOf]; omega
        · have hcc : (j < n ∧ i = 0) ∨ ¬ j < n := by omega
          clear hgo
          rcases hcc with ⟨hjn, hi0⟩ | hjn
          · have g1 : decide ((j : Int) < (n : Int)) = true := decide_eq_true (by omega)
            have g2 : decide ((0 : Int) < (i : Int)) = false := decide_eq_false (by omega)
            have g3 : ¬ (0 < i) := by omega
            clear hi0
            go_wp2_with fail
            refine (HAg.out a4 i c4 _ rfl (HL5.out.later HW.out)).mono ?_
            rintro e w8 ⟨a10, c10, rfl, ho10, hb8⟩
            have HA8 := hidP ho10.row
            have HL8 := hidP (HL5.out.later (HW.out.trans (hb8.mono HW.out.size)))
            have HB8 := hidP (HB5.out.trans ((HW.out.trans (hb8.mono HW.out.size)).mono HB5.out.size))
            clear ho10 hb8 HL5 HB5 HW HAg HP5
            go_wp2_with fail
            go_loopw [11] (fun t11 wr => ∃ k : Nat, k ≤ i ∧ t11 = .int .i64 k ∧ Below w8.heap.size w8 wr) (fun t11 _ => i - (intOf t11).toNat)
            case atStart => exact ⟨0, Nat.zero_le _, rfl, Below.refl _ _⟩
            case round =>
              obtain ⟨k, hk, rfl, hbw⟩ := hrel
              obtain ⟨W, hW⟩ : ∃ z, z = wr := ⟨_, rfl⟩
              rw [← hW] at hbw ⊢
              clear hW
              have HW := hidP hbw
              clear hbw
              by_cases hki : k < i
              · obtain ⟨p4, o4, xe, rfl, hpl, hxe, x0, x1, x2, x3⟩ := (HL8.out.later HW.out) k (by rw [← HN.out.2]; exact hki)
                obtain ⟨p5, o5, ye, rfl, hql, hye, y0, y1, y2, y3⟩ := (HA8.out.later HW.out) k (by rw [← HN.out.2]; exact hki)
                rw [hxe] at hye
                cases hye
                have hEq := eqQ_run xe xe
                have hqq : eqQ xe xe = true := by unfold eqQ; simp
                rw [hqq] at hEq
                have d1 : decide ((i : Int) ≤ (k : Int)) = false := decide_eq_false (by omega)
                have d2 : (k : Int) < (i : Int) := by omega
                have d3 : ¬ (i ≤ k) := by omega
                clear hxe hqq
                go_upto_region 29 with fail
                have HSx : Hid (∀ x, Below W.heap.size W x → (x.cell? ⟨p4, o4 + k * 4, none⟩ = some (.bool xe.s) ∧ x.cell? ⟨p4, o4 + k * 4 + 1, none⟩ = some (.int .i64 xe.H.toInt) ∧ x.cell? ⟨p4, o4 + k * 4 + 2, none⟩ = some (.int .i64 xe.L.toInt) ∧ x.cell? ⟨p4, o4 + k * 4 + 3, none⟩ = some (.int .i64 xe.b) ∧ x.cell? ⟨p5, o5 + k * 4, none⟩ = some (.bool xe.s) ∧ x.cell? ⟨p5, o5 + k * 4 + 1, none⟩ = some (.int .i64 xe.H.toInt) ∧ x.cell? ⟨p5, o5 + k * 4 + 2, none⟩ = some (.int .i64 xe.L.toInt) ∧ x.cell? ⟨p5, o5 + k * 4 + 3, none⟩ = some (.int .i64 xe.b) ∧ Below W.heap.size W x)) := hidP fun x h =>
                  ⟨(h.cell hpl).trans x0, (h.cell hpl).trans x1, (h.cell hpl).trans x2, (h.cell hpl).trans x3, (h.cell hql).trans y0, (h.cell hql).trans y1, (h.cell hql).trans y2, (h.cell hql).trans y3, h⟩
                refine wp_region_held_drew (S := (fun x => x.cell? ⟨p4, o4 + k * 4, none⟩ = some (.bool xe.s) ∧ x.cell? ⟨p4, o4 + k * 4 + 1, none⟩ = some (.int .i64 xe.H.toInt) ∧ x.cell? ⟨p4, o4 + k * 4 + 2, none⟩ = some (.int .i64 xe.L.toInt) ∧ x.cell? ⟨p4, o4 + k * 4 + 3, none⟩ = some (.int .i64 xe.b) ∧ x.cell? ⟨p5, o5 + k * 4, none⟩ = some (.bool xe.s) ∧ x.cell? ⟨p5, o5 + k * 4 + 1, none⟩ = some (.int .i64 xe.H.toInt) ∧ x.cell? ⟨p5, o5 + k * 4 + 2, none⟩ = some (.int .i64 xe.L.toInt) ∧ x.cell? ⟨p5, o5 + k * 4 + 3, none⟩ = some (.int .i64 xe.b) ∧ Below W.heap.size W x)) (by kernel_rfl) ?_ (fun hHeld => ?_)
                · try dsimp only
                  exact HSx.out _ ((Below.refl _ _).drew)
                refine tk 0 95 rfl ?_
                simp only [pa]
                refine tk 1 96 rfl ?_
                simp only [pa]
                refine tk 2 97 rfl ?_
                simp only [pa]
                refine tk 3 98 rfl ?_
                simp only [pa]
                refine tk 4 99 rfl ?_
                simp only [pa]
                refine tk 5 100 rfl ?_
                simp only [pa]
                refine tk 6 101 rfl ?_
                simp only [pa]
                refine tk 7 102 rfl ?_
                simp only [pa]
                refine tk 8 103 rfl ?_
                simp only [pa]
                refine tk 9 104 rfl ?_
                simp only [pa]
                refine tk 10 105 rfl ?_
                simp only [pa]
                refine tk 11 106 rfl ?_
                simp only [pa]
                refine tk 12 107 rfl ?_
                simp only [pa]
                refine tk 13 108 rfl ?_
                simp only [pa]
                refine tk 14 109 rfl ?_
                simp only [pa]
                have HE := hidP (hHeld.2.2.2.2.2.2.2.2)
                refine wpAnyH_done (by kernel_rfl) ?_ _
                clear hHeld
                have HE2 := hidP (HW.out.trans (HE.out.mono HW.out.size))
                clear HE x0 x1 x2 x3 y0 y1 y2 y3 hEq
                go_wp2_with fail
                go_roundw
                case rel => exact ⟨k + 1, by omega, by go_num, HE2.out⟩
                case measure => simp [intOf]; omega
              · have d9 : ((i : Int) == (i : Int)) = true := by simp
                go_wp2_with fail
                go_ret
                exact ⟨rfl, HB8.out.trans (HW.out.mono HB8.out.size)⟩
          · have g1 : decide ((j : Int) < (n : Int)) = false := decide_eq_false (by omega)
            go_wp2_with fail
            refine (HAg.out a4 i c4 _ rfl (HL5.out.later HW.out)).mono ?_
            rintro e w8 ⟨a10, c10, rfl, ho10, hb8⟩
            have HA8 := hidP ho10.row
            have HL8 := hidP (HL5.out.later (HW.out.trans (hb8.mono HW.out.size)))
            have HB8 := hidP (HB5.out.trans ((HW.out.trans (hb8.mono HW.out.size)).mono HB5.out.size))
            clear ho10 hb8 HL5 HB5 HW HAg HP5
            go_wp2_with fail
            go_loopw [11] (fun t11 wr => ∃ k : Nat, k ≤ i ∧ t11 = .int .i64 k ∧ Below w8.heap.size w8 wr) (fun t11 _ => i - (intOf t11).toNat)
            case atStart => exact ⟨0, Nat.zero_le _, rfl, Below.refl _ _⟩
            case round =>
              obtain ⟨k, hk, rfl, hbw⟩ := hrel
              obtain ⟨W, hW⟩ : ∃ z, z = wr := ⟨_, rfl⟩
              rw [← hW] at hbw ⊢
              clear hW
              have HW := hidP hbw
              clear hbw
              by_cases hki : k < i
              · obtain ⟨p4, o4, xe, rfl, hpl, hxe, x0, x1, x2, x3⟩ := (HL8.out.later HW.out) k (by rw [← HN.out.2]; exact hki)
                obtain ⟨p5, o5, ye, rfl, hql, hye, y0, y1, y2, y3⟩ := (HA8.out.later HW.out) k (by rw [← HN.out.2]; exact hki)
                rw [hxe] at hye
                cases hye
                have hEq := eqQ_run xe xe
                have hqq : eqQ xe xe = true := by unfold eqQ; simp
                rw [hqq] at hEq
                have d1 : decide ((i : Int) ≤ (k : Int)) = false := decide_eq_false (by omega)
                have d2 : (k : Int) < (i : Int) := by omega
                have d3 : ¬ (i ≤ k) := by omega
                clear hxe hqq
                go_upto_region 29 with fail
                have HSx : Hid (∀ x, Below W.heap.size W x → (x.cell? ⟨p4, o4 + k * 4, none⟩ = some (.bool xe.s) ∧ x.cell? ⟨p4, o4 + k * 4 + 1, none⟩ = some (.int .i64 xe.H.toInt) ∧ x.cell? ⟨p4, o4 + k * 4 + 2, none⟩ = some (.int .i64 xe.L.toInt) ∧ x.cell? ⟨p4, o4 + k * 4 + 3, none⟩ = some (.int .i64 xe.b) ∧ x.cell? ⟨p5, o5 + k * 4, none⟩ = some (.bool xe.s) ∧ x.cell? ⟨p5, o5 + k * 4 + 1, none⟩ = some (.int .i64 xe.H.toInt) ∧ x.cell? ⟨p5, o5 + k * 4 + 2, none⟩ = some (.int .i64 xe.L.toInt) ∧ x.cell? ⟨p5, o5 + k * 4 + 3, none⟩ = some (.int .i64 xe.b) ∧ Below W.heap.size W x)) := hidP fun x h =>
                  ⟨(h.cell hpl).trans x0, (h.cell hpl).trans x1, (h.cell hpl).trans x2, (h.cell hpl).trans x3, (h.cell hql).trans y0, (h.cell hql).trans y1, (h.cell hql).trans y2, (h.cell hql).trans y3, h⟩
                refine wp_region_held_drew (S := (fun x => x.cell? ⟨p4, o4 + k * 4, none⟩ = some (.bool xe.s) ∧ x.cell? ⟨p4, o4 + k * 4 + 1, none⟩ = some (.int .i64 xe.H.toInt) ∧ x.cell? ⟨p4, o4 + k * 4 + 2, none⟩ = some (.int .i64 xe.L.toInt) ∧ x.cell? ⟨p4, o4 + k * 4 + 3, none⟩ = some (.int .i64 xe.b) ∧ x.cell? ⟨p5, o5 + k * 4, none⟩ = some (.bool xe.s) ∧ x.cell? ⟨p5, o5 + k * 4 + 1, none⟩ = some (.int .i64 xe.H.toInt) ∧ x.cell? ⟨p5, o5 + k * 4 + 2, none⟩ = some (.int .i64 xe.L.toInt) ∧ x.cell? ⟨p5, o5 + k * 4 + 3, none⟩ = some (.int .i64 xe.b) ∧ Below W.heap.size W x)) (by kernel_rfl) ?_ (fun hHeld => ?_)
                · try dsimp only
                  exact HSx.out _ ((Below.refl _ _).drew)
                refine tk 0 95 rfl ?_
                simp only [pa]
                refine tk 1 96 rfl ?_
                simp only [pa]
                refine tk 2 97 rfl ?_
                simp only [pa]
                refine tk 3 98 rfl ?_
                simp only [pa]
                refine tk 4 99 rfl ?_
                simp only [pa]
                refine tk 5 100 rfl ?_
                simp only [pa]
                refine tk 6 101 rfl ?_
                simp only [pa]
                refine tk 7 102 rfl ?_
                simp only [pa]
                refine tk 8 103 rfl ?_
                simp only [pa]
                refine tk 9 104 rfl ?_
                simp only [pa]
                refine tk 10 105 rfl ?_
                simp only [pa]
                refine tk 11 106 rfl ?_
                simp only [pa]
                refine tk 12 107 rfl ?_
                simp only [pa]
                refine tk 13 108 rfl ?_
                simp only [pa]
                refine tk 14 109 rfl ?_
                simp only [pa]
                have HE := hidP (hHeld.2.2.2.2.2.2.2.2)
                refine wpAnyH_done (by kernel_rfl) ?_ _
                clear hHeld
                have HE2 := hidP (HW.out.trans (HE.out.mono HW.out.size))
                clear HE x0 x1 x2 x3 y0 y1 y2 y3 hEq
                go_wp2_with fail
                go_roundw
                case rel => exact ⟨k + 1, by omega, by go_num, HE2.out⟩
                case measure => simp [intOf]; omega
              · have d9 : ((i : Int) == (i : Int)) = true := by simp
                go_wp2_with fail
                go_ret
                exact ⟨rfl, HB8.out.trans (HW.out.mono HB8.out.size)⟩

set_option maxHeartbeats 1000000 in
theorem lawColl9_all (a : Option Addr) (len cap : Nat) (w : World) (hB : Bytes w a len) :
    Calls Try.prog 3 #[.slice a len cap] w fun e w' => e = .returned (.bool true) ∧ Below w.heap.size w w' := by
  by_cases hl : len ≤ 1048576
  · exact lawColl9 a len cap w hB hl
  · have hbig : ∀ wx : World, Calls Try.prog 6 #[.slice a len cap] wx fun e w' => e = .returned (.bool true) ∧ wx = w' := fun wx => by
      have d : decide ((1048576 : Int) < (len : Int)) = true := decide_eq_true (by omega)
      go_enter Try.func6, Try.ntmps6
      go_wp2
      go_ret
      exact ⟨rfl, rfl⟩
    have HG : Hid (∀ wx : World, _) := hbig
    clear hbig
    go_enter Try.func3, Try.ntmps3
    go_wp2_with fail
    refine (HG.out _).mono ?_
    rintro e w0 ⟨rfl, rfl⟩
    go_wp2_with fail
    go_ret
    exact ⟨rfl, Below.refl _ _⟩

set_option maxRecDepth 100000 in
theorem lawColl9_lifted (os : Os) (started : os.Started) (H : Type) (enc : TypeId × Value → H) :
    ReturnsInHanded {} Try.checked os 3 .any (Rows.fnCollapsedSpec.pre6 enc Try.prog Try.f3 Rows.fnCollapsedRow.domain false) (Rows.fnCollapsedSpec.post enc Try.prog Try.f3 false true false false) := by
  refine returnsInHanded_of_change (C := Try.checked) Try.ownW started (by kernel_rfl) Try.func3
    (ChangeSpec.witness6 (enc := enc) (C := Try.checked) false ⟨#[], #[.slice none 0 0], []⟩ 8 (by kernel_rfl) (by kernel_rfl) (by kernel_rfl) (by kernel_rfl)) ?_
  intro W base args ds gs before hval0 hW _ _
  have hval : ∀ (j : Nat) t v, Try.f3.params[j]? = some t → args[j]? = some v → Value.okWide Try.prog W .any base t v := hval0
  have hW' := hW
  obtain ⟨p, q, hA0, hV, rfl, _, _⟩ := hW
  have hA : DataW.TrodAll enc Try.prog W 0 (fun _ => true) true Try.f3.params.toList args.toList ds p := hA0
  rw [Try.params3] at hA hval
  obtain ⟨v0, d0, rfl, rfl, h0⟩ := trodAll_one hA
  obtain ⟨rfl, rfl⟩ := trodVars_none hV
  obtain ⟨a0, len, cap, rfl⟩ := okWide_slice Try.underlying22 (hval 0 22 v0 rfl rfl)
  clear hA0 hval0
  simp only [List.append_nil] at hW'
  have hlt : ∀ x ∈ p, x.block < W.heap.size := fun x hx => by simpa using hW'.lt x hx
  refine (lawColl9_all a0 len cap W (bytes_open h0)).mono fun e W' ⟨he, hb⟩ => ?_
  subst he
  exact ⟨_, rfl, ⟨_, _, _, [], p, [], hW', trodAll_mk1 (shut_bool Try.underlying4 true), trodAll_mk1 (Below.trod Try.laidOutW (by kernel_rfl) (of_decide_eq_true (by kernel_rfl)) h0 hb hlt), rfl, hb.frame _, fun h => by cases h⟩⟩

theorem lawColl9_holds : Rows.FnCollapsedSaid :=
  OpenClaim.holds_of_wide 3 Try.f3 rfl rfl rfl rfl rfl rfl rfl ⟨rfl, rfl, rfl, rfl, rfl⟩ rfl rfl rfl rfl rfl (by kernel_rfl) Try.func3 (by kernel_rfl)
    (of_decide_eq_true (by kernel_rfl)) (by unfold Func.isWrapper; rw [if_neg (of_decide_eq_false (by kernel_rfl))]; exact ⟨rfl, rfl⟩)
    (fun os started H enc _ => lawColl9_lifted os started H enc)

end Go.Proofs.Ytgohffeneibhdaa
