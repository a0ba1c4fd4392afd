/-
  For every code the law FnLeft answers yes: what is left of a drawn prefix overlaps nothing that was taken; what is left and what was taken of it collapse to it; no condition.
-/
import Derived.Test.YtgohffeneibhdaaMWl
import Derived.Test.YtgohffeneibhdaaMKf
import Derived.Test.YtgohffeneibhdaaRows
namespace Go.Proofs.Ytgohffeneibhdaa
open Go.ChangeShapes Go.WideShapes Go.ChangeAt Go.RowKit Go.Joins Go.Deep

set_option maxRecDepth 10000 in
set_option maxHeartbeats 16000000 in
theorem lawLeft9 (a : Option Addr) (len cap : Nat) (w : World) (hB : Bytes w a len) (hl : len ≤ 1048576) :
    Calls Try.prog 4 #[.slice a len cap] w fun e w' => e = .returned (.bool true) ∧ Below w.heap.size w w' := by
  have HBy := hidP hB
  clear hB
  have hbig : ∀ wx : World, Calls Try.prog 6 #[.slice a len cap] wx fun e w' => e = .returned (.bool false) ∧ wx = w' := fun wx => by
    have d : decide ((1048576 : Int) < (len : Int)) = false := decide_eq_false (by omega)
    go_enter Try.func6, Try.ntmps6
    go_wp2
    go_ret
    exact ⟨rfl, rfl⟩
  have HG := hidP hbig
  clear hbig
  go_enter Try.func4, Try.ntmps4
  go_wp2_with fail
  refine (HG.out _).mono ?_
  rintro e w0 ⟨rfl, rfl⟩
  go_wp2_with fail
  refine (drawWithout_any a len cap w HBy.out hl).mono ?_
  rintro e w1 ⟨p, a4, n, c4, ps, hn, hn9, rfl, ho4, hb1⟩
  obtain ⟨R, fl⟩ := fl_of p ps (by omega)
  obtain ⟨m, hm⟩ : ∃ m, m = R.length := ⟨_, rfl⟩
  have hm9 : m ≤ 100000 := by rw [hm]; exact fl.len
  have HFl0 := hidP fl
  have HI1 := hidP (fun W h => fl.imp a4 n c4 W hn (ho4.row.later h))
  have HS1 := hidP (fun W h => fl.spc a4 n c4 W hn (ho4.row.later h))
  have HR4 := hidP ho4.row
  have HB1 := hidP hb1
  have HN := hidP (And.intro hn hm)
  clear fl ho4 hb1 hn HBy HG hl
  rw [← hm] at HI1 HS1
  clear hm
  go_wp2_with fail
  have HPa := hidP (Bq.new w1 p)
  have k2 := alloc_b w1 (.cells #[.bool p.s, .int .i64 p.H.toInt, .int .i64 p.L.toInt, .int .i64 p.b] 31)
  have HK2 := hidP k2
  generalize w1.alloc (.cells #[.bool p.s, .int .i64 p.H.toInt, .int .i64 p.L.toInt, .int .i64 p.b] 31) = W2 at *
  obtain ⟨z0, z1, z2, z3, zl⟩ := HPa.out
  refine (HI1.out W2 HK2.out).mono ?_
  rintro e w3 ⟨a5, c5, rfl, ho5, hb3⟩
  have HP3 := hidP (HPa.out.later hb3)
  have HB3 := hidP (HK2.out.trans (hb3.mono HK2.out.size))
  have HR5 := hidP ho5.row
  have HCp5 := hidP ho5.caps.2.2.2
  clear ho5 hb3 z0 z1 z2 z3 zl HPa HI1 k2
  obtain ⟨z0, z1, z2, z3, zl⟩ := HP3.out
  go_wp2_with fail
  refine (HS1.out w3 HB3.out).mono ?_
  rintro e w4 ⟨a6, c6, rfl, _, hb4⟩
  have HPb := hidP (HP3.out.later hb4)
  have HL := hidP (HR5.out.later hb4)
  have HP := hidP (HR4.out.later (HB3.out.trans (hb4.mono HB3.out.size)))
  have HBw : Hid (Below w.heap.size w w4) := hidP (HB1.out.trans ((HB3.out.trans (hb4.mono HB3.out.size)).mono HB1.out.size))
  have hne : ((m : Int) != (m : Int)) = false := by simp
  clear hb4 HP3 HB3 HR5 HR4 HB1 HS1 HK2 z0 z1 z2 z3 zl
  go_wp2_with fail
  go_loopw [6] (fun t6 wr => ∃ i : Nat, i ≤ n ∧ t6 = .int .i64 i ∧ (∀ q ∈ ps.take i, q.pok = true) ∧ Below w4.heap.size w4 wr) (fun t6 _ => n - (intOf t6).toNat)
  case atStart => exact ⟨0, Nat.zero_le _, rfl, (fun _ h => by simp at h), Below.refl _ _⟩
  case round =>
    obtain ⟨i, hi, rfl, hall, hbw⟩ := hrel
    have HW := hidP hbw
    have HAll := hidP hall
    clear hbw hall
    by_cases hlt : i < n
    · obtain ⟨p4, o4, ye, rfl, hyl, hye, y0, y1, y2, y3⟩ := (HP.out.later HW.out) i (by rw [← HN.out.1]; exact hlt)
      have HPk := hidP (fun W => sPrefixOk_any ye.s ye.H ye.L ye.b W)
      have hin : (i : Int) < (n : Int) := by omega
      have HYe := hidP hye
      cases hpk : pokB ye.s ye.H ye.L ye.b
      · rw [hpk] at HPk
        have hR := HFl0.out.bad ye (List.mem_of_getElem? hye) hpk
        have hm0 : m = 0 := by rw [HN.out.2, hR]; rfl
        subst hm0
        clear hpk hye hR
        go_wp2_with fail
        refine (HPk.out _).mono ?_
        rintro e w5 ⟨rfl, hb5⟩
        have HB5 := hidP (HBw.out.trans ((HW.out.trans (hb5.mono HW.out.size)).mono HBw.out.size))
        clear hb5
        go_wp2_with fail
        go_ret
        exact ⟨rfl, HB5.out⟩
      · rw [hpk] at HPk
        have HPk2 := hidP (show ye.pok = true from hpk)
        clear hpk hye
        go_wp2_with fail
        refine (HPk.out _).mono ?_
        rintro e w5 ⟨rfl, hb5⟩
        have HB5 := hidP (HW.out.trans (hb5.mono HW.out.size))
        clear hb5
        go_wp2_with fail
        go_roundw
        case rel =>
          refine ⟨i + 1, by omega, by go_num, fun q hq => ?_, HB5.out⟩
          rw [List.take_add_one, HYe.out] at hq
          rcases List.mem_append.1 hq with h | h
          · exact HAll.out q h
          · simp at h
            rw [h]; exact HPk2.out
        case measure => simp [intOf]; omega
    · have him : i = n := by omega
      subst him
      have hpk : ∀ q ∈ ps, q.pok = true := by
        have h := HAll.out
        rwa [List.take_of_length_le (by rw [← HN.out.1]; exact Nat.le_refl _)] at h
      have HAk := hidP hpk
      obtain ⟨W5, hW5⟩ : ∃ z, z = wr := ⟨_, rfl⟩
      rw [← hW5] at HW ⊢
      have HL5 := hidP (HL.out.later HW.out)
      have HP5 := hidP (HP.out.later HW.out)
      have HPb5 := hidP (HPb.out.later HW.out)
      have HB5 := hidP (HBw.out.trans (HW.out.mono HBw.out.size))
      clear hW5 hpk HAll HL HP HPb HBw HW hlt hi
      have HZ := hidP (own_zero W5 W5.heap.size 31 (Nat.le_refl _))
      have HZB := hidP (alloc_b W5 (.cells #[] 31))
      have HRc := hidP HCp5.out
      go_wp2_with (at_builtin; refine stp9 ?_)
      unfold Stp9
      refine wpList_appR Try.fourP9 _ rfl (.tmp 43) (.tmp 44) 24 rfl W5.heap.size (some ⟨W5.heap.size, 0, none⟩) 0 0 m [] R (.slice a5 m c5) rfl rfl HN.out.2 HZ.out rfl (src_row Try.fourP9 m c5 HN.out.2 (HL5.out.later HZB.out) HRc.out) (by omega) HZB.out.size ?_
      intro a7 c7 w6 ho7 hg7 ht7
      rw [Nat.zero_add] at ho7 ⊢
      rw [List.nil_append] at ho7
      have HC6 := hidP (And.intro ho7 (HZB.out.grown hg7 HZB.out.size (fun g hg => (HZ.out.lt g hg).1)))
      clear ho7 hg7 ht7 HZ HZB HRc
      go_wp2_with fail
      go_loopw [7, 8] (fun t7 t8 wr => ∃ (a7 : Option Addr) (k7 c7 j : Nat), t7 = .slice a7 k7 c7 ∧ t8 = .int .i64 j ∧ j ≤ i ∧ OwnR 31 wr W5.heap.size (.slice a7 k7 c7) (R ++ (ps.take j).flatMap (addP p)) ∧ Below W5.heap.size W5 wr) (fun _ t8 _ => i - (intOf t8).toNat)
      case atStart => exact ⟨a7, m, c7, 0, rfl, rfl, Nat.zero_le _, by simpa using HC6.out.1, HC6.out.2⟩
      case round =>
        obtain ⟨a7, k7, c7, j, rfl, rfl, hj, ho, hb⟩ := hrel
        have HC := hidP (And.intro ho hb)
        have hk7 : k7 ≤ 200000 := by
          have h1 := ho.caps.1
          have h2 := addP_len p (ps.take j)
          rw [List.length_append, ← HN.out.2] at h1
          rw [List.length_take] at h2
          omega
        clear ho hb HC6
        by_cases hlt : j < i
        · obtain ⟨p4, o4, ye, rfl, hql, hye, u0, u1, u2, u3⟩ := HP5.out j (by rw [← HN.out.1]; exact hlt)
          have Y0 := hidP u0
          have Y1 := hidP u1
          have Y2 := hidP u2
          have Y3 := hidP u3
          have HYe := hidP hye
          have hji : (j : Int) < (i : Int) := by omega
          obtain ⟨Q, hQ⟩ : ∃ Q, Q = R ++ (ps.take j).flatMap (addP p) := ⟨_, rfl⟩
          have HFl := hidP (show R ++ (ps.take (j + 1)).flatMap (addP p) = Q ++ addP p ye by rw [hQ, List.take_add_one, HYe.out, List.flatMap_append, ← List.append_assoc]; simp)
          rw [← hQ] at HC
          have HQl := hidP (show k7 = Q.length from HC.out.1.caps.1)
          clear u0 u1 u2 u3 hye hQ
          go_wp2_with fail
          go_loopw [9] (fun t9 wr => ∃ k : Nat, k ≤ m ∧ t9 = .int .i64 k ∧ OwnR 31 wr W5.heap.size (.slice a7 k7 c7) Q ∧ Below W5.heap.size W5 wr) (fun t9 _ => m - (intOf t9).toNat)
          case atStart => exact ⟨0, Nat.zero_le _, rfl, HC.out.1, HC.out.2⟩
          case round =>
            obtain ⟨k, hk, rfl, ho, hb⟩ := hrel
            obtain ⟨Wq, hWq⟩ : ∃ z, z = wr := ⟨_, rfl⟩
            rw [← hWq] at ho hb ⊢
            clear hWq HC
            have HC := hidP (And.intro ho hb)
            clear ho hb
            have y0 := (HC.out.2.cell hql).trans Y0.out
            have y1 := (HC.out.2.cell hql).trans Y1.out
            have y2 := (HC.out.2.cell hql).trans Y2.out
            have y3 := (HC.out.2.cell hql).trans Y3.out
            have hyl : p4 < Wq.heap.size := Nat.lt_of_lt_of_le hql HC.out.2.size
            obtain ⟨z0, z1, z2, z3, zl⟩ := HPb5.out.later HC.out.2
            by_cases hkm : k < m
            · obtain ⟨p5, o5, xe, rfl, hxl, hxe, x0, x1, x2, x3⟩ := (HL5.out.later HC.out.2) k (by rw [← HN.out.2]; exact hkm)
              obtain ⟨hov, hwi⟩ := HFl0.out.ov xe (List.mem_of_getElem? hxe)
              have hov' : (winB xe.s xe.H xe.L xe.b ye.s ye.H ye.L ye.b || winB ye.s ye.H ye.L ye.b xe.s xe.H xe.L xe.b) = false := hov ye (List.mem_of_getElem? HYe.out)
              have hwi' : winB xe.s xe.H xe.L xe.b p.s p.H p.L p.b = true := hwi
              have HOv := hidP (fun W => iOverlaps_any xe.s xe.H xe.L xe.b ye.s ye.H ye.L ye.b W)
              have HWi := hidP (fun W => iWithin_any xe.s xe.H xe.L xe.b p.s p.H p.L p.b W)
              rw [hov'] at HOv
              rw [hwi'] at HWi
              have d5 : (k : Int) < (m : Int) := by omega
              clear hov hov' hwi hwi' hxe
              go_upto_region 19 with fail
              have HSx : Hid (∀ x, Below Wq.heap.size Wq x → (x.cell? ⟨p5, o5 + k * 4, none⟩ = some (.bool xe.s) ∧ x.cell? ⟨p5, o5 + k * 4 + 1, none⟩ = some (.int .i64 xe.H.toInt) ∧ x.cell? ⟨p5, o5 + k * 4 + 2, none⟩ = some (.int .i64 xe.L.toInt) ∧ x.cell? ⟨p5, o5 + k * 4 + 3, none⟩ = some (.int .i64 xe.b) ∧ x.cell? ⟨p4, o4 + j * 4, none⟩ = some (.bool ye.s) ∧ x.cell? ⟨p4, o4 + j * 4 + 1, none⟩ = some (.int .i64 ye.H.toInt) ∧ x.cell? ⟨p4, o4 + j * 4 + 2, none⟩ = some (.int .i64 ye.L.toInt) ∧ x.cell? ⟨p4, o4 + j * 4 + 3, none⟩ = some (.int .i64 ye.b) ∧ x.cell? ⟨w1.heap.size, 0, none⟩ = some (.bool p.s) ∧ x.cell? ⟨w1.heap.size, 1, none⟩ = some (.int .i64 p.H.toInt) ∧ x.cell? ⟨w1.heap.size, 2, none⟩ = some (.int .i64 p.L.toInt) ∧ x.cell? ⟨w1.heap.size, 3, none⟩ = some (.int .i64 p.b) ∧ Below Wq.heap.size Wq x)) := hidP fun x h =>
                ⟨(h.cell hxl).trans x0, (h.cell hxl).trans x1, (h.cell hxl).trans x2, (h.cell hxl).trans x3, (h.cell hyl).trans y0, (h.cell hyl).trans y1, (h.cell hyl).trans y2, (h.cell hyl).trans y3, (h.cell zl).trans z0, (h.cell zl).trans z1, (h.cell zl).trans z2, (h.cell zl).trans z3, h⟩
              refine wp_region_held_drew (S := (fun x => x.cell? ⟨p5, o5 + k * 4, none⟩ = some (.bool xe.s) ∧ x.cell? ⟨p5, o5 + k * 4 + 1, none⟩ = some (.int .i64 xe.H.toInt) ∧ x.cell? ⟨p5, o5 + k * 4 + 2, none⟩ = some (.int .i64 xe.L.toInt) ∧ x.cell? ⟨p5, o5 + k * 4 + 3, none⟩ = some (.int .i64 xe.b) ∧ x.cell? ⟨p4, o4 + j * 4, none⟩ = some (.bool ye.s) ∧ x.cell? ⟨p4, o4 + j * 4 + 1, none⟩ = some (.int .i64 ye.H.toInt) ∧ x.cell? ⟨p4, o4 + j * 4 + 2, none⟩ = some (.int .i64 ye.L.toInt) ∧ x.cell? ⟨p4, o4 + j * 4 + 3, none⟩ = some (.int .i64 ye.b) ∧ x.cell? ⟨w1.heap.size, 0, none⟩ = some (.bool p.s) ∧ x.cell? ⟨w1.heap.size, 1, none⟩ = some (.int .i64 p.H.toInt) ∧ x.cell? ⟨w1.heap.size, 2, none⟩ = some (.int .i64 p.L.toInt) ∧ x.cell? ⟨w1.heap.size, 3, none⟩ = some (.int .i64 p.b) ∧ Below Wq.heap.size Wq x)) (by kernel_rfl) ?_ (fun hHeld => ?_)
              · try dsimp only
                exact HSx.out _ ((Below.refl _ _).drew)
              refine tk 0 58 rfl ?_
              simp only [pa]
              refine tk 1 59 rfl ?_
              simp only [pa]
              refine tk 2 60 rfl ?_
              simp only [pa]
              refine tk 3 61 rfl ?_
              simp only [pa]
              refine tk 4 62 rfl ?_
              simp only [pa]
              refine tk 5 63 rfl ?_
              simp only [pa]
              refine tk 6 64 rfl ?_
              simp only [pa]
              refine tk 7 65 rfl ?_
              simp only [pa]
              refine wpAnyH_ready (rs := [8]) (by kernel_rfl) (by simp) ?_
              refine AllReadyH.cons rfl (fun K hK => ?_) AllReadyH.nil
              go_simp
              go_wp2_with (first | (go_at_call 10; refine (HOv.out _).mono ?_; rintro e w7 ⟨rfl, hb7⟩; have b7 := (hHeld.2.2.2.2.2.2.2.2.2.2.2.2).trans (hb7.mono (hHeld.2.2.2.2.2.2.2.2.2.2.2.2).size)))
              refine hK.out _ _ ?_ (fun hHeld => ?_)
              · try dsimp only
                exact HSx.out _ b7
              clear hK K
              refine tk 9 67 rfl ?_
              simp only [pa]
              refine tk 10 68 rfl ?_
              simp only [pa]
              refine tk 11 69 rfl ?_
              simp only [pa]
              refine tk 12 70 rfl ?_
              simp only [pa]
              refine tk 13 71 rfl ?_
              simp only [pa]
              refine tk 14 72 rfl ?_
              simp only [pa]
              refine wpAnyH_ready (rs := [15]) (by kernel_rfl) (by simp) ?_
              refine AllReadyH.cons rfl (fun K hK => ?_) AllReadyH.nil
              go_simp
              go_wp2_with (first | (go_at_call 12; refine (HWi.out _).mono ?_; rintro e w8 ⟨rfl, hb8⟩; have b8 := (hHeld.2.2.2.2.2.2.2.2.2.2.2.2).trans (hb8.mono (hHeld.2.2.2.2.2.2.2.2.2.2.2.2).size)))
              refine hK.out _ _ ?_ (fun hHeld => ?_)
              · try dsimp only
                exact HSx.out _ b8
              clear hK K
              refine tk 16 74 rfl ?_
              simp only [pa]
              refine tk 17 75 rfl ?_
              simp only [pa]
              have HE := hidP (hHeld.2.2.2.2.2.2.2.2.2.2.2.2)
              refine wpAnyH_done (by kernel_rfl) ?_ _
              clear hHeld
              have HCe := hidP (And.intro (HC.out.1.later HE.out) (HC.out.2.trans (HE.out.mono HC.out.2.size)))
              clear HE x0 x1 x2 x3 y0 y1 y2 y3 z0 z1 z2 z3 hyl zl hxl
              go_wp2_with fail
              go_roundw
              case rel => exact ⟨k + 1, by omega, by go_num, HCe.out.1, HCe.out.2⟩
              case measure => simp [intOf]; omega
            · have hkm2 : k = m := by omega
              subst hkm2
              have hb1 := hidP (fun W => iWithin_any ye.s ye.H ye.L ye.b p.s p.H p.L p.b W)
              cases hw1 : winB ye.s ye.H ye.L ye.b p.s p.H p.L p.b
              · rw [hw1] at hb1
                go_upto_region 21 with fail
                have HSx : Hid (∀ x, Below Wq.heap.size Wq x → (x.cell? ⟨p4, o4 + j * 4, none⟩ = some (.bool ye.s) ∧ x.cell? ⟨p4, o4 + j * 4 + 1, none⟩ = some (.int .i64 ye.H.toInt) ∧ x.cell? ⟨p4, o4 + j * 4 + 2, none⟩ = some (.int .i64 ye.L.toInt) ∧ x.cell? ⟨p4, o4 + j * 4 + 3, none⟩ = some (.int .i64 ye.b) ∧ x.cell? ⟨w1.heap.size, 0, none⟩ = some (.bool p.s) ∧ x.cell? ⟨w1.heap.size, 1, none⟩ = some (.int .i64 p.H.toInt) ∧ x.cell? ⟨w1.heap.size, 2, none⟩ = some (.int .i64 p.L.toInt) ∧ x.cell? ⟨w1.heap.size, 3, none⟩ = some (.int .i64 p.b) ∧ Below Wq.heap.size Wq x)) := hidP fun x h =>
                  ⟨(h.cell hyl).trans y0, (h.cell hyl).trans y1, (h.cell hyl).trans y2, (h.cell hyl).trans y3, (h.cell zl).trans z0, (h.cell zl).trans z1, (h.cell zl).trans z2, (h.cell zl).trans z3, h⟩
                refine wp_region_held_drew (S := (fun x => x.cell? ⟨p4, o4 + j * 4, none⟩ = some (.bool ye.s) ∧ x.cell? ⟨p4, o4 + j * 4 + 1, none⟩ = some (.int .i64 ye.H.toInt) ∧ x.cell? ⟨p4, o4 + j * 4 + 2, none⟩ = some (.int .i64 ye.L.toInt) ∧ x.cell? ⟨p4, o4 + j * 4 + 3, none⟩ = some (.int .i64 ye.b) ∧ x.cell? ⟨w1.heap.size, 0, none⟩ = some (.bool p.s) ∧ x.cell? ⟨w1.heap.size, 1, none⟩ = some (.int .i64 p.H.toInt) ∧ x.cell? ⟨w1.heap.size, 2, none⟩ = some (.int .i64 p.L.toInt) ∧ x.cell? ⟨w1.heap.size, 3, none⟩ = some (.int .i64 p.b) ∧ Below Wq.heap.size Wq x)) (by kernel_rfl) ?_ (fun hHeld => ?_)
                · try dsimp only
                  exact HSx.out _ ((Below.refl _ _).drew)
                refine tk 0 76 rfl ?_
                simp only [pa]
                refine tk 1 77 rfl ?_
                simp only [pa]
                refine tk 2 78 rfl ?_
                simp only [pa]
                refine tk 3 79 rfl ?_
                simp only [pa]
                refine tk 4 80 rfl ?_
                simp only [pa]
                refine wpAnyH_ready (rs := [5]) (by kernel_rfl) (by simp) ?_
                refine AllReadyH.cons rfl (fun K hK => ?_) AllReadyH.nil
                go_simp
                go_wp2_with (first | (go_at_call 12; refine (hb1.out _).mono ?_; rintro e w10 ⟨rfl, hb10⟩; have b10 := (hHeld.2.2.2.2.2.2.2.2).trans (hb10.mono (hHeld.2.2.2.2.2.2.2.2).size)))
                refine hK.out _ _ ?_ (fun hHeld => ?_)
                · try dsimp only
                  exact HSx.out _ b10
                clear hK K
                have HE := hidP (hHeld.2.2.2.2.2.2.2.2)
                refine wpAnyH_done (by kernel_rfl) ?_ _
                clear hHeld
                have HCa := hidP (And.intro (HC.out.1.later HE.out) (HC.out.2.trans (HE.out.mono HC.out.2.size)))
                clear HE y0 y1 y2 y3 z0 z1 z2 z3 hyl zl HC
                have hb2 := hidP (fun W => iWithin_any p.s p.H p.L p.b ye.s ye.H ye.L ye.b W)
                have y0 := (HCa.out.2.cell hql).trans Y0.out
                have y1 := (HCa.out.2.cell hql).trans Y1.out
                have y2 := (HCa.out.2.cell hql).trans Y2.out
                have y3 := (HCa.out.2.cell hql).trans Y3.out
                have hyl : p4 < w10.heap.size := Nat.lt_of_lt_of_le hql HCa.out.2.size
                obtain ⟨z0, z1, z2, z3, zl⟩ := HPb5.out.later HCa.out.2
                cases hw2 : winB p.s p.H p.L p.b ye.s ye.H ye.L ye.b
                · rw [hw2] at hb2
                  have HAd := hidP (show addP p ye = [] by unfold addP winF; rw [hw1, hw2]; rfl)
                  clear hw2
                  go_upto_region 23 with fail
                  have HSx : Hid (∀ x, Below w10.heap.size w10 x → (x.cell? ⟨p4, o4 + j * 4, none⟩ = some (.bool ye.s) ∧ x.cell? ⟨p4, o4 + j * 4 + 1, none⟩ = some (.int .i64 ye.H.toInt) ∧ x.cell? ⟨p4, o4 + j * 4 + 2, none⟩ = some (.int .i64 ye.L.toInt) ∧ x.cell? ⟨p4, o4 + j * 4 + 3, none⟩ = some (.int .i64 ye.b) ∧ x.cell? ⟨w1.heap.size, 0, none⟩ = some (.bool p.s) ∧ x.cell? ⟨w1.heap.size, 1, none⟩ = some (.int .i64 p.H.toInt) ∧ x.cell? ⟨w1.heap.size, 2, none⟩ = some (.int .i64 p.L.toInt) ∧ x.cell? ⟨w1.heap.size, 3, none⟩ = some (.int .i64 p.b) ∧ Below w10.heap.size w10 x)) := hidP fun x h =>
                    ⟨(h.cell hyl).trans y0, (h.cell hyl).trans y1, (h.cell hyl).trans y2, (h.cell hyl).trans y3, (h.cell zl).trans z0, (h.cell zl).trans z1, (h.cell zl).trans z2, (h.cell zl).trans z3, h⟩
                  refine wp_region_held_drew (S := (fun x => x.cell? ⟨p4, o4 + j * 4, none⟩ = some (.bool ye.s) ∧ x.cell? ⟨p4, o4 + j * 4 + 1, none⟩ = some (.int .i64 ye.H.toInt) ∧ x.cell? ⟨p4, o4 + j * 4 + 2, none⟩ = some (.int .i64 ye.L.toInt) ∧ x.cell? ⟨p4, o4 + j * 4 + 3, none⟩ = some (.int .i64 ye.b) ∧ x.cell? ⟨w1.heap.size, 0, none⟩ = some (.bool p.s) ∧ x.cell? ⟨w1.heap.size, 1, none⟩ = some (.int .i64 p.H.toInt) ∧ x.cell? ⟨w1.heap.size, 2, none⟩ = some (.int .i64 p.L.toInt) ∧ x.cell? ⟨w1.heap.size, 3, none⟩ = some (.int .i64 p.b) ∧ Below w10.heap.size w10 x)) (by kernel_rfl) ?_ (fun hHeld => ?_)
                  · try dsimp only
                    exact HSx.out _ ((Below.refl _ _).drew)
                  refine tk 0 89 rfl ?_
                  simp only [pa]
                  refine tk 1 90 rfl ?_
                  simp only [pa]
                  refine tk 2 91 rfl ?_
                  simp only [pa]
                  refine tk 3 92 rfl ?_
                  simp only [pa]
                  refine tk 4 93 rfl ?_
                  simp only [pa]
                  refine wpAnyH_ready (rs := [5]) (by kernel_rfl) (by simp) ?_
                  refine AllReadyH.cons rfl (fun K hK => ?_) AllReadyH.nil
                  go_simp
                  go_wp2_with (first | (go_at_call 12; refine (hb2.out _).mono ?_; rintro e w21 ⟨rfl, hb21⟩; have b21 := (hHeld.2.2.2.2.2.2.2.2).trans (hb21.mono (hHeld.2.2.2.2.2.2.2.2).size)))
                  refine hK.out _ _ ?_ (fun hHeld => ?_)
                  · try dsimp only
                    exact HSx.out _ b21
                  clear hK K
                  have HE := hidP (hHeld.2.2.2.2.2.2.2.2)
                  refine wpAnyH_done (by kernel_rfl) ?_ _
                  clear hHeld
                  have HCe := hidP (And.intro (HCa.out.1.later HE.out) (HCa.out.2.trans (HE.out.mono HCa.out.2.size)))
                  clear HE y0 y1 y2 y3 z0 z1 z2 z3 hyl zl
                  go_wp2_with fail
                  go_roundw
                  case rel => exact ⟨a7, k7, c7, j + 1, rfl, by go_num, by omega, by rw [HFl.out, HAd.out, List.append_nil]; exact HCe.out.1, HCe.out.2⟩
                  case measure => simp [intOf]; omega
                · rw [hw2] at hb2
                  have HAd := hidP (show addP p ye = [p] by unfold addP winF; rw [hw1, hw2]; rfl)
                  clear hw2
                  go_upto_region 23 with fail
                  have HSx : Hid (∀ x, Below w10.heap.size w10 x → (x.cell? ⟨p4, o4 + j * 4, none⟩ = some (.bool ye.s) ∧ x.cell? ⟨p4, o4 + j * 4 + 1, none⟩ = some (.int .i64 ye.H.toInt) ∧ x.cell? ⟨p4, o4 + j * 4 + 2, none⟩ = some (.int .i64 ye.L.toInt) ∧ x.cell? ⟨p4, o4 + j * 4 + 3, none⟩ = some (.int .i64 ye.b) ∧ x.cell? ⟨w1.heap.size, 0, none⟩ = some (.bool p.s) ∧ x.cell? ⟨w1.heap.size, 1, none⟩ = some (.int .i64 p.H.toInt) ∧ x.cell? ⟨w1.heap.size, 2, none⟩ = some (.int .i64 p.L.toInt) ∧ x.cell? ⟨w1.heap.size, 3, none⟩ = some (.int .i64 p.b) ∧ Below w10.heap.size w10 x)) := hidP fun x h =>
                    ⟨(h.cell hyl).trans y0, (h.cell hyl).trans y1, (h.cell hyl).trans y2, (h.cell hyl).trans y3, (h.cell zl).trans z0, (h.cell zl).trans z1, (h.cell zl).trans z2, (h.cell zl).trans z3, h⟩
                  refine wp_region_held_drew (S := (fun x => x.cell? ⟨p4, o4 + j * 4, none⟩ = some (.bool ye.s) ∧ x.cell? ⟨p4, o4 + j * 4 + 1, none⟩ = some (.int .i64 ye.H.toInt) ∧ x.cell? ⟨p4, o4 + j * 4 + 2, none⟩ = some (.int .i64 ye.L.toInt) ∧ x.cell? ⟨p4, o4 + j * 4 + 3, none⟩ = some (.int .i64 ye.b) ∧ x.cell? ⟨w1.heap.size, 0, none⟩ = some (.bool p.s) ∧ x.cell? ⟨w1.heap.size, 1, none⟩ = some (.int .i64 p.H.toInt) ∧ x.cell? ⟨w1.heap.size, 2, none⟩ = some (.int .i64 p.L.toInt) ∧ x.cell? ⟨w1.heap.size, 3, none⟩ = some (.int .i64 p.b) ∧ Below w10.heap.size w10 x)) (by kernel_rfl) ?_ (fun hHeld => ?_)
                  · try dsimp only
                    exact HSx.out _ ((Below.refl _ _).drew)
                  refine tk 0 89 rfl ?_
                  simp only [pa]
                  refine tk 1 90 rfl ?_
                  simp only [pa]
                  refine tk 2 91 rfl ?_
                  simp only [pa]
                  refine tk 3 92 rfl ?_
                  simp only [pa]
                  refine tk 4 93 rfl ?_
                  simp only [pa]
                  refine wpAnyH_ready (rs := [5]) (by kernel_rfl) (by simp) ?_
                  refine AllReadyH.cons rfl (fun K hK => ?_) AllReadyH.nil
                  go_simp
                  go_wp2_with (first | (go_at_call 12; refine (hb2.out _).mono ?_; rintro e w21 ⟨rfl, hb21⟩; have b21 := (hHeld.2.2.2.2.2.2.2.2).trans (hb21.mono (hHeld.2.2.2.2.2.2.2.2).size)))
                  refine hK.out _ _ ?_ (fun hHeld => ?_)
                  · try dsimp only
                    exact HSx.out _ b21
                  clear hK K
                  have HE := hidP (hHeld.2.2.2.2.2.2.2.2)
                  refine wpAnyH_done (by kernel_rfl) ?_ _
                  clear hHeld
                  have HCe := hidP (And.intro (HCa.out.1.later HE.out) (HCa.out.2.trans (HE.out.mono HCa.out.2.size)))
                  clear HE y0 y1 y2 y3 z0 z1 z2 z3 hyl zl
                  obtain ⟨z0, z1, z2, z3, zl⟩ := HPb5.out.later HCe.out.2
                  go_wp2_with (at_builtin; refine stp9 ?_)
                  unfold Stp9
                  have hba := alloc_b w21 (.cells #[.bool p.s, .int .i64 p.H.toInt, .int .i64 p.L.toInt, .int .i64 p.b] 31)
                  have HSr := hidP (src_row (P := Try.prog) Try.fourP9 1 1 rfl (row_one w21 31 p) (fun h => by cases h))
                  have HOa := hidP (HCe.out.1.later hba)
                  have HBa := hidP (HCe.out.2.trans (hba.mono HCe.out.2.size))
                  refine wpList_appR Try.fourP9 _ rfl (.tmp 95) (.tmp 97) 24 rfl W5.heap.size a7 k7 c7 1 Q [p] (.slice (some ⟨w21.heap.size, 0, none⟩) 1 1) rfl HQl.out rfl HOa.out rfl HSr.out (by omega) HBa.out.size ?_
                  intro a9 c9 w9 ho9 hg9 ht9
                  have HC9 := hidP (And.intro ho9 (HBa.out.grown hg9 HBa.out.size (fun g hg => (HOa.out.lt g hg).1)))
                  clear ho9 hg9 ht9 hba HSr HOa HBa
                  clear z0 z1 z2 z3 zl
                  go_wp2_with fail
                  go_roundw
                  case rel => exact ⟨a9, k7 + 1, c9, j + 1, rfl, by go_num, by omega, by rw [HFl.out, HAd.out]; exact HC9.out.1, HC9.out.2⟩
                  case measure => simp [intOf]; omega
              · rw [hw1] at hb1
                go_upto_region 21 with fail
                have HSx : Hid (∀ x, Below Wq.heap.size Wq x → (x.cell? ⟨p4, o4 + j * 4, none⟩ = some (.bool ye.s) ∧ x.cell? ⟨p4, o4 + j * 4 + 1, none⟩ = some (.int .i64 ye.H.toInt) ∧ x.cell? ⟨p4, o4 + j * 4 + 2, none⟩ = some (.int .i64 ye.L.toInt) ∧ x.cell? ⟨p4, o4 + j * 4 + 3, none⟩ = some (.int .i64 ye.b) ∧ x.cell? ⟨w1.heap.size, 0, none⟩ = some (.bool p.s) ∧ x.cell? ⟨w1.heap.size, 1, none⟩ = some (.int .i64 p.H.toInt) ∧ x.cell? ⟨w1.heap.size, 2, none⟩ = some (.int .i64 p.L.toInt) ∧ x.cell? ⟨w1.heap.size, 3, none⟩ = some (.int .i64 p.b) ∧ Below Wq.heap.size Wq x)) := hidP fun x h =>
                  ⟨(h.cell hyl).trans y0, (h.cell hyl).trans y1, (h.cell hyl).trans y2, (h.cell hyl).trans y3, (h.cell zl).trans z0, (h.cell zl).trans z1, (h.cell zl).trans z2, (h.cell zl).trans z3, h⟩
                refine wp_region_held_drew (S := (fun x => x.cell? ⟨p4, o4 + j * 4, none⟩ = some (.bool ye.s) ∧ x.cell? ⟨p4, o4 + j * 4 + 1, none⟩ = some (.int .i64 ye.H.toInt) ∧ x.cell? ⟨p4, o4 + j * 4 + 2, none⟩ = some (.int .i64 ye.L.toInt) ∧ x.cell? ⟨p4, o4 + j * 4 + 3, none⟩ = some (.int .i64 ye.b) ∧ x.cell? ⟨w1.heap.size, 0, none⟩ = some (.bool p.s) ∧ x.cell? ⟨w1.heap.size, 1, none⟩ = some (.int .i64 p.H.toInt) ∧ x.cell? ⟨w1.heap.size, 2, none⟩ = some (.int .i64 p.L.toInt) ∧ x.cell? ⟨w1.heap.size, 3, none⟩ = some (.int .i64 p.b) ∧ Below Wq.heap.size Wq x)) (by kernel_rfl) ?_ (fun hHeld => ?_)
                · try dsimp only
                  exact HSx.out _ ((Below.refl _ _).drew)
                refine tk 0 76 rfl ?_
                simp only [pa]
                refine tk 1 77 rfl ?_
                simp only [pa]
                refine tk 2 78 rfl ?_
                simp only [pa]
                refine tk 3 79 rfl ?_
                simp only [pa]
                refine tk 4 80 rfl ?_
                simp only [pa]
                refine wpAnyH_ready (rs := [5]) (by kernel_rfl) (by simp) ?_
                refine AllReadyH.cons rfl (fun K hK => ?_) AllReadyH.nil
                go_simp
                go_wp2_with (first | (go_at_call 12; refine (hb1.out _).mono ?_; rintro e w10 ⟨rfl, hb10⟩; have b10 := (hHeld.2.2.2.2.2.2.2.2).trans (hb10.mono (hHeld.2.2.2.2.2.2.2.2).size)))
                refine hK.out _ _ ?_ (fun hHeld => ?_)
                · try dsimp only
                  exact HSx.out _ b10
                clear hK K
                have HE := hidP (hHeld.2.2.2.2.2.2.2.2)
                refine wpAnyH_done (by kernel_rfl) ?_ _
                clear hHeld
                have HCa := hidP (And.intro (HC.out.1.later HE.out) (HC.out.2.trans (HE.out.mono HC.out.2.size)))
                clear HE y0 y1 y2 y3 z0 z1 z2 z3 hyl zl HC
                have y0 := (HCa.out.2.cell hql).trans Y0.out
                have y1 := (HCa.out.2.cell hql).trans Y1.out
                have y2 := (HCa.out.2.cell hql).trans Y2.out
                have y3 := (HCa.out.2.cell hql).trans Y3.out
                have hyl : p4 < w10.heap.size := Nat.lt_of_lt_of_le hql HCa.out.2.size
                obtain ⟨z0, z1, z2, z3, zl⟩ := HPb5.out.later HCa.out.2
                go_wp2_with (at_builtin; refine stp9 ?_)
                unfold Stp9
                have hba := alloc_b w10 (.cells #[.bool ye.s, .int .i64 ye.H.toInt, .int .i64 ye.L.toInt, .int .i64 ye.b] 31)
                have HSr := hidP (src_row (P := Try.prog) Try.fourP9 1 1 rfl (row_one w10 31 ye) (fun h => by cases h))
                have HOa := hidP (HCa.out.1.later hba)
                have HBa := hidP (HCa.out.2.trans (hba.mono HCa.out.2.size))
                refine wpList_appR Try.fourP9 _ rfl (.tmp 82) (.tmp 87) 24 rfl W5.heap.size a7 k7 c7 1 Q [ye] (.slice (some ⟨w10.heap.size, 0, none⟩) 1 1) rfl HQl.out rfl HOa.out rfl HSr.out (by omega) HBa.out.size ?_
                intro a9 c9 w9 ho9 hg9 ht9
                have HC9 := hidP (And.intro ho9 (HBa.out.grown hg9 HBa.out.size (fun g hg => (HOa.out.lt g hg).1)))
                clear ho9 hg9 ht9 hba HSr HOa HBa
                have HQ2 := hidP (show k7 + 1 = (Q ++ [ye]).length by rw [List.length_append, ← HQl.out]; rfl)
                obtain ⟨k8, hk8⟩ : ∃ k8, k8 = k7 + 1 := ⟨_, rfl⟩
                have hk89 : k8 ≤ 200001 := by omega
                rw [← hk8] at HQ2 HC9 ⊢
                obtain ⟨a8, ha8⟩ : ∃ z, z = a9 := ⟨_, rfl⟩
                obtain ⟨c8, hc8⟩ : ∃ z, z = c9 := ⟨_, rfl⟩
                rw [← ha8, ← hc8] at HC9 ⊢
                obtain ⟨Wy, hWy⟩ : ∃ z, z = w9 := ⟨_, rfl⟩
                rw [← hWy] at HC9 ⊢
                have HCb := hidP HC9.out
                clear hk8 ha8 hc8 hWy HC9 y0 y1 y2 y3 z0 z1 z2 z3 hyl zl HCa
                have hb2 := hidP (fun W => iWithin_any p.s p.H p.L p.b ye.s ye.H ye.L ye.b W)
                have y0 := (HCb.out.2.cell hql).trans Y0.out
                have y1 := (HCb.out.2.cell hql).trans Y1.out
                have y2 := (HCb.out.2.cell hql).trans Y2.out
                have y3 := (HCb.out.2.cell hql).trans Y3.out
                have hyl : p4 < Wy.heap.size := Nat.lt_of_lt_of_le hql HCb.out.2.size
                obtain ⟨z0, z1, z2, z3, zl⟩ := HPb5.out.later HCb.out.2
                cases hw2 : winB p.s p.H p.L p.b ye.s ye.H ye.L ye.b
                · rw [hw2] at hb2
                  have HAd := hidP (show addP p ye = [ye] by unfold addP winF; rw [hw1, hw2]; rfl)
                  clear hw2
                  go_upto_region 23 with fail
                  have HSx : Hid (∀ x, Below Wy.heap.size Wy x → (x.cell? ⟨p4, o4 + j * 4, none⟩ = some (.bool ye.s) ∧ x.cell? ⟨p4, o4 + j * 4 + 1, none⟩ = some (.int .i64 ye.H.toInt) ∧ x.cell? ⟨p4, o4 + j * 4 + 2, none⟩ = some (.int .i64 ye.L.toInt) ∧ x.cell? ⟨p4, o4 + j * 4 + 3, none⟩ = some (.int .i64 ye.b) ∧ x.cell? ⟨w1.heap.size, 0, none⟩ = some (.bool p.s) ∧ x.cell? ⟨w1.heap.size, 1, none⟩ = some (.int .i64 p.H.toInt) ∧ x.cell? ⟨w1.heap.size, 2, none⟩ = some (.int .i64 p.L.toInt) ∧ x.cell? ⟨w1.heap.size, 3, none⟩ = some (.int .i64 p.b) ∧ Below Wy.heap.size Wy x)) := hidP fun x h =>
                    ⟨(h.cell hyl).trans y0, (h.cell hyl).trans y1, (h.cell hyl).trans y2, (h.cell hyl).trans y3, (h.cell zl).trans z0, (h.cell zl).trans z1, (h.cell zl).trans z2, (h.cell zl).trans z3, h⟩
                  refine wp_region_held_drew (S := (fun x => x.cell? ⟨p4, o4 + j * 4, none⟩ = some (.bool ye.s) ∧ x.cell? ⟨p4, o4 + j * 4 + 1, none⟩ = some (.int .i64 ye.H.toInt) ∧ x.cell? ⟨p4, o4 + j * 4 + 2, none⟩ = some (.int .i64 ye.L.toInt) ∧ x.cell? ⟨p4, o4 + j * 4 + 3, none⟩ = some (.int .i64 ye.b) ∧ x.cell? ⟨w1.heap.size, 0, none⟩ = some (.bool p.s) ∧ x.cell? ⟨w1.heap.size, 1, none⟩ = some (.int .i64 p.H.toInt) ∧ x.cell? ⟨w1.heap.size, 2, none⟩ = some (.int .i64 p.L.toInt) ∧ x.cell? ⟨w1.heap.size, 3, none⟩ = some (.int .i64 p.b) ∧ Below Wy.heap.size Wy x)) (by kernel_rfl) ?_ (fun hHeld => ?_)
                  · try dsimp only
                    exact HSx.out _ ((Below.refl _ _).drew)
                  refine tk 0 89 rfl ?_
                  simp only [pa]
                  refine tk 1 90 rfl ?_
                  simp only [pa]
                  refine tk 2 91 rfl ?_
                  simp only [pa]
                  refine tk 3 92 rfl ?_
                  simp only [pa]
                  refine tk 4 93 rfl ?_
                  simp only [pa]
                  refine wpAnyH_ready (rs := [5]) (by kernel_rfl) (by simp) ?_
                  refine AllReadyH.cons rfl (fun K hK => ?_) AllReadyH.nil
                  go_simp
                  go_wp2_with (first | (go_at_call 12; refine (hb2.out _).mono ?_; rintro e w25 ⟨rfl, hb25⟩; have b25 := (hHeld.2.2.2.2.2.2.2.2).trans (hb25.mono (hHeld.2.2.2.2.2.2.2.2).size)))
                  refine hK.out _ _ ?_ (fun hHeld => ?_)
                  · try dsimp only
                    exact HSx.out _ b25
                  clear hK K
                  have HE := hidP (hHeld.2.2.2.2.2.2.2.2)
                  refine wpAnyH_done (by kernel_rfl) ?_ _
                  clear hHeld
                  have HCe := hidP (And.intro (HCb.out.1.later HE.out) (HCb.out.2.trans (HE.out.mono HCb.out.2.size)))
                  clear HE y0 y1 y2 y3 z0 z1 z2 z3 hyl zl
                  go_wp2_with fail
                  go_roundw
                  case rel => exact ⟨a8, k8, c8, j + 1, rfl, by go_num, by omega, by rw [HFl.out, HAd.out]; exact HCe.out.1, HCe.out.2⟩
                  case measure => simp [intOf]; omega
                · rw [hw2] at hb2
                  have HAd := hidP (show addP p ye = [ye] ++ [p] by unfold addP winF; rw [hw1, hw2]; rfl)
                  clear hw2
                  go_upto_region 23 with fail
                  have HSx : Hid (∀ x, Below Wy.heap.size Wy x → (x.cell? ⟨p4, o4 + j * 4, none⟩ = some (.bool ye.s) ∧ x.cell? ⟨p4, o4 + j * 4 + 1, none⟩ = some (.int .i64 ye.H.toInt) ∧ x.cell? ⟨p4, o4 + j * 4 + 2, none⟩ = some (.int .i64 ye.L.toInt) ∧ x.cell? ⟨p4, o4 + j * 4 + 3, none⟩ = some (.int .i64 ye.b) ∧ x.cell? ⟨w1.heap.size, 0, none⟩ = some (.bool p.s) ∧ x.cell? ⟨w1.heap.size, 1, none⟩ = some (.int .i64 p.H.toInt) ∧ x.cell? ⟨w1.heap.size, 2, none⟩ = some (.int .i64 p.L.toInt) ∧ x.cell? ⟨w1.heap.size, 3, none⟩ = some (.int .i64 p.b) ∧ Below Wy.heap.size Wy x)) := hidP fun x h =>
                    ⟨(h.cell hyl).trans y0, (h.cell hyl).trans y1, (h.cell hyl).trans y2, (h.cell hyl).trans y3, (h.cell zl).trans z0, (h.cell zl).trans z1, (h.cell zl).trans z2, (h.cell zl).trans z3, h⟩
                  refine wp_region_held_drew (S := (fun x => x.cell? ⟨p4, o4 + j * 4, none⟩ = some (.bool ye.s) ∧ x.cell? ⟨p4, o4 + j * 4 + 1, none⟩ = some (.int .i64 ye.H.toInt) ∧ x.cell? ⟨p4, o4 + j * 4 + 2, none⟩ = some (.int .i64 ye.L.toInt) ∧ x.cell? ⟨p4, o4 + j * 4 + 3, none⟩ = some (.int .i64 ye.b) ∧ x.cell? ⟨w1.heap.size, 0, none⟩ = some (.bool p.s) ∧ x.cell? ⟨w1.heap.size, 1, none⟩ = some (.int .i64 p.H.toInt) ∧ x.cell? ⟨w1.heap.size, 2, none⟩ = some (.int .i64 p.L.toInt) ∧ x.cell? ⟨w1.heap.size, 3, none⟩ = some (.int .i64 p.b) ∧ Below Wy.heap.size Wy x)) (by kernel_rfl) ?_ (fun hHeld => ?_)
                  · try dsimp only
                    exact HSx.out _ ((Below.refl _ _).drew)
                  refine tk 0 89 rfl ?_
                  simp only [pa]
                  refine tk 1 90 rfl ?_
                  simp only [pa]
                  refine tk 2 91 rfl ?_
                  simp only [pa]
                  refine tk 3 92 rfl ?_
                  simp only [pa]
                  refine tk 4 93 rfl ?_
                  simp only [pa]
                  refine wpAnyH_ready (rs := [5]) (by kernel_rfl) (by simp) ?_
                  refine AllReadyH.cons rfl (fun K hK => ?_) AllReadyH.nil
                  go_simp
                  go_wp2_with (first | (go_at_call 12; refine (hb2.out _).mono ?_; rintro e w25 ⟨rfl, hb25⟩; have b25 := (hHeld.2.2.2.2.2.2.2.2).trans (hb25.mono (hHeld.2.2.2.2.2.2.2.2).size)))
                  refine hK.out _ _ ?_ (fun hHeld => ?_)
                  · try dsimp only
                    exact HSx.out _ b25
                  clear hK K
                  have HE := hidP (hHeld.2.2.2.2.2.2.2.2)
                  refine wpAnyH_done (by kernel_rfl) ?_ _
                  clear hHeld
                  have HCe := hidP (And.intro (HCb.out.1.later HE.out) (HCb.out.2.trans (HE.out.mono HCb.out.2.size)))
                  clear HE y0 y1 y2 y3 z0 z1 z2 z3 hyl zl
                  obtain ⟨z0, z1, z2, z3, zl⟩ := HPb5.out.later HCe.out.2
                  go_wp2_with (at_builtin; refine stp9 ?_)
                  unfold Stp9
                  have hba := alloc_b w25 (.cells #[.bool p.s, .int .i64 p.H.toInt, .int .i64 p.L.toInt, .int .i64 p.b] 31)
                  have HSr := hidP (src_row (P := Try.prog) Try.fourP9 1 1 rfl (row_one w25 31 p) (fun h => by cases h))
                  have HOa := hidP (HCe.out.1.later hba)
                  have HBa := hidP (HCe.out.2.trans (hba.mono HCe.out.2.size))
                  refine wpList_appR Try.fourP9 _ rfl (.tmp 95) (.tmp 97) 24 rfl W5.heap.size a8 k8 c8 1 (Q ++ [ye]) [p] (.slice (some ⟨w25.heap.size, 0, none⟩) 1 1) rfl HQ2.out rfl HOa.out rfl HSr.out (by omega) HBa.out.size ?_
                  intro a9 c9 w9 ho9 hg9 ht9
                  have HC9 := hidP (And.intro ho9 (HBa.out.grown hg9 HBa.out.size (fun g hg => (HOa.out.lt g hg).1)))
                  clear ho9 hg9 ht9 hba HSr HOa HBa
                  clear z0 z1 z2 z3 zl
                  go_wp2_with fail
                  go_roundw
                  case rel => exact ⟨a9, k8 + 1, c9, j + 1, rfl, by go_num, by omega, by rw [HFl.out, HAd.out, ← List.append_assoc]; exact HC9.out.1, HC9.out.2⟩
                  case measure => simp [intOf]; omega
        · have hji : j = i := by omega
          subst hji
          have htk : ps.take j = ps := List.take_of_length_le (by rw [← HN.out.1]; exact Nat.le_refl _)
          rw [htk] at HC
          have HQl := hidP (show k7 = (R ++ ps.flatMap (addP p)).length from HC.out.1.caps.1)
          clear htk hj hlt
          obtain ⟨Wt, hWt⟩ : ∃ z, z = wr := ⟨_, rfl⟩
          rw [← hWt] at HC ⊢
          clear hWt
          by_cases h300 : 300 < k7
          · have d3 : decide ((300 : Int) < (k7 : Int)) = true := decide_eq_true (by omega)
            go_wp2_with fail
            go_ret
            exact ⟨rfl, HB5.out.trans (HC.out.2.mono HB5.out.size)⟩
          · have d3 : decide ((300 : Int) < (k7 : Int)) = false := decide_eq_false (by omega)
            have hk3 : (R ++ ps.flatMap (addP p)).length ≤ 300 := by rw [← HQl.out]; omega
            obtain ⟨z0, z1, z2, z3, zl⟩ := HPb5.out.later HC.out.2
            have HPk := hidP (fun W => sPrefixOk_any p.s p.H p.L p.b W)
            cases hpk : pokB p.s p.H p.L p.b
            · rw [hpk] at HPk
              have hm0 : m = 0 := by rw [HN.out.2, HFl0.out.wrong hpk]; rfl
              subst hm0
              clear hpk
              go_wp2_with fail
              refine (HPk.out _).mono ?_
              rintro e w8 ⟨rfl, hb8⟩
              have HE8 := hidP (HB5.out.trans ((HC.out.2.trans (hb8.mono HC.out.2.size)).mono HB5.out.size))
              clear hb8
              go_wp2_with fail
              go_ret
              exact ⟨rfl, HE8.out⟩
            · rw [hpk] at HPk
              obtain ⟨cI, cS⟩ := HFl0.out.one HAk.out hpk hk3
              have HcI := hidP (fun W h => cI a7 k7 c7 W HQl.out (HC.out.1.row.later h))
              have HcS := hidP (fun W h => cS a7 k7 c7 W HQl.out (HC.out.1.row.later h))
              clear hpk cI cS hk3
              by_cases hm0 : m = 0
              · subst hm0
                go_wp2_with fail
                refine (HPk.out _).mono ?_
                rintro e w8 ⟨rfl, hb8⟩
                have HB8 := hidP hb8
                clear hb8 z0 z1 z2 z3 zl
                go_wp2_with fail
                refine (HcS.out w8 HB8.out).mono ?_
                rintro e w9 ⟨a8, c8, rfl, _, hb9⟩
                have HB9 := hidP (HB8.out.trans (hb9.mono HB8.out.size))
                clear hb9
                go_wp2_with fail
                refine (HcI.out w9 HB9.out).mono ?_
                rintro e w11 ⟨a9, c9, rfl, ho9, hb11⟩
                obtain ⟨p6, o6, x6, rfl, hxl, hx6, x0, x1, x2, x3⟩ := ho9.row 0 (by simp)
                have hx7 : p = x6 := Option.some.inj hx6
                subst hx7
                have HD := hidP (HC.out.2.trans ((HB9.out.trans (hb11.mono HB9.out.size)).mono HC.out.2.size))
                have hEq := eqQ_run p p
                have hqq : eqQ p p = true := by unfold eqQ; simp
                rw [hqq] at hEq
                have d1 : ((1 : Int) == (1 : Int)) = true := rfl
                obtain ⟨z0, z1, z2, z3, zl⟩ := HPb5.out.later HD.out
                clear ho9 hb11 hx6 hqq HcI HcS
                go_upto_region 30 with fail
                have HSx : Hid (∀ x, Below w11.heap.size w11 x → (x.cell? ⟨p6, o6, none⟩ = some (.bool p.s) ∧ x.cell? ⟨p6, o6 + 1, none⟩ = some (.int .i64 p.H.toInt) ∧ x.cell? ⟨p6, o6 + 2, none⟩ = some (.int .i64 p.L.toInt) ∧ x.cell? ⟨p6, o6 + 3, none⟩ = some (.int .i64 p.b) ∧ x.cell? ⟨w1.heap.size, 0, none⟩ = some (.bool p.s) ∧ x.cell? ⟨w1.heap.size, 1, none⟩ = some (.int .i64 p.H.toInt) ∧ x.cell? ⟨w1.heap.size, 2, none⟩ = some (.int .i64 p.L.toInt) ∧ x.cell? ⟨w1.heap.size, 3, none⟩ = some (.int .i64 p.b) ∧ Below w11.heap.size w11 x)) := hidP fun x h =>
                  ⟨(h.cell hxl).trans x0, (h.cell hxl).trans x1, (h.cell hxl).trans x2, (h.cell hxl).trans x3, (h.cell zl).trans z0, (h.cell zl).trans z1, (h.cell zl).trans z2, (h.cell zl).trans z3, h⟩
                refine wp_region_held_drew (S := (fun x => x.cell? ⟨p6, o6, none⟩ = some (.bool p.s) ∧ x.cell? ⟨p6, o6 + 1, none⟩ = some (.int .i64 p.H.toInt) ∧ x.cell? ⟨p6, o6 + 2, none⟩ = some (.int .i64 p.L.toInt) ∧ x.cell? ⟨p6, o6 + 3, none⟩ = some (.int .i64 p.b) ∧ x.cell? ⟨w1.heap.size, 0, none⟩ = some (.bool p.s) ∧ x.cell? ⟨w1.heap.size, 1, none⟩ = some (.int .i64 p.H.toInt) ∧ x.cell? ⟨w1.heap.size, 2, none⟩ = some (.int .i64 p.L.toInt) ∧ x.cell? ⟨w1.heap.size, 3, none⟩ = some (.int .i64 p.b) ∧ Below w11.heap.size w11 x)) (by kernel_rfl) ?_ (fun hHeld => ?_)
                · try dsimp only
                  exact HSx.out _ ((Below.refl _ _).drew)
                refine tk 0 121 rfl ?_
                simp only [pa]
                refine tk 1 122 rfl ?_
                simp only [pa]
                refine tk 2 123 rfl ?_
                simp only [pa]
                refine tk 3 124 rfl ?_
                simp only [pa]
                refine tk 4 125 rfl ?_
                simp only [pa]
                refine tk 5 126 rfl ?_
                simp only [pa]
                refine tk 6 127 rfl ?_
                simp only [pa]
                refine tk 7 128 rfl ?_
                simp only [pa]
                refine tk 8 129 rfl ?_
                simp only [pa]
                refine tk 9 130 rfl ?_
                simp only [pa]
                refine tk 10 2 rfl ?_
                simp only [pa]
                have HE := hidP (hHeld.2.2.2.2.2.2.2.2)
                refine wpAnyH_done (by kernel_rfl) ?_ _
                clear hHeld
                go_wp2_with fail
                go_ret
                exact ⟨rfl, HB5.out.trans ((HD.out.trans (HE.out.mono HD.out.size)).mono HB5.out.size)⟩
              · have dm : ((m : Int) == 0) = false := beq_eq_false_iff_ne.2 (by omega)
                go_wp2_with fail
                refine (HPk.out _).mono ?_
                rintro e w8 ⟨rfl, hb8⟩
                have HB8 := hidP hb8
                clear hb8 z0 z1 z2 z3 zl
                go_wp2_with fail
                refine (HcI.out w8 HB8.out).mono ?_
                rintro e w11 ⟨a9, c9, rfl, ho9, hb11⟩
                obtain ⟨p6, o6, x6, rfl, hxl, hx6, x0, x1, x2, x3⟩ := ho9.row 0 (by simp)
                have hx7 : p = x6 := Option.some.inj hx6
                subst hx7
                have HD := hidP (HC.out.2.trans ((HB8.out.trans (hb11.mono HB8.out.size)).mono HC.out.2.size))
                have hEq := eqQ_run p p
                have hqq : eqQ p p = true := by unfold eqQ; simp
                rw [hqq] at hEq
                have d1 : ((1 : Int) == (1 : Int)) = true := rfl
                obtain ⟨z0, z1, z2, z3, zl⟩ := HPb5.out.later HD.out
                clear ho9 hb11 hx6 hqq HcI HcS
                go_upto_region 30 with fail
                have HSx : Hid (∀ x, Below w11.heap.size w11 x → (x.cell? ⟨p6, o6, none⟩ = some (.bool p.s) ∧ x.cell? ⟨p6, o6 + 1, none⟩ = some (.int .i64 p.H.toInt) ∧ x.cell? ⟨p6, o6 + 2, none⟩ = some (.int .i64 p.L.toInt) ∧ x.cell? ⟨p6, o6 + 3, none⟩ = some (.int .i64 p.b) ∧ x.cell? ⟨w1.heap.size, 0, none⟩ = some (.bool p.s) ∧ x.cell? ⟨w1.heap.size, 1, none⟩ = some (.int .i64 p.H.toInt) ∧ x.cell? ⟨w1.heap.size, 2, none⟩ = some (.int .i64 p.L.toInt) ∧ x.cell? ⟨w1.heap.size, 3, none⟩ = some (.int .i64 p.b) ∧ Below w11.heap.size w11 x)) := hidP fun x h =>
                  ⟨(h.cell hxl).trans x0, (h.cell hxl).trans x1, (h.cell hxl).trans x2, (h.cell hxl).trans x3, (h.cell zl).trans z0, (h.cell zl).trans z1, (h.cell zl).trans z2, (h.cell zl).trans z3, h⟩
                refine wp_region_held_drew (S := (fun x => x.cell? ⟨p6, o6, none⟩ = some (.bool p.s) ∧ x.cell? ⟨p6, o6 + 1, none⟩ = some (.int .i64 p.H.toInt) ∧ x.cell? ⟨p6, o6 + 2, none⟩ = some (.int .i64 p.L.toInt) ∧ x.cell? ⟨p6, o6 + 3, none⟩ = some (.int .i64 p.b) ∧ x.cell? ⟨w1.heap.size, 0, none⟩ = some (.bool p.s) ∧ x.cell? ⟨w1.heap.size, 1, none⟩ = some (.int .i64 p.H.toInt) ∧ x.cell? ⟨w1.heap.size, 2, none⟩ = some (.int .i64 p.L.toInt) ∧ x.cell? ⟨w1.heap.size, 3, none⟩ = some (.int .i64 p.b) ∧ Below w11.heap.size w11 x)) (by kernel_rfl) ?_ (fun hHeld => ?_)
                · try dsimp only
                  exact HSx.out _ ((Below.refl _ _).drew)
                refine tk 0 121 rfl ?_
                simp only [pa]
                refine tk 1 122 rfl ?_
                simp only [pa]
                refine tk 2 123 rfl ?_
                simp only [pa]
                refine tk 3 124 rfl ?_
                simp only [pa]
                refine tk 4 125 rfl ?_
                simp only [pa]
                refine tk 5 126 rfl ?_
                simp only [pa]
                refine tk 6 127 rfl ?_
                simp only [pa]
                refine tk 7 128 rfl ?_
                simp only [pa]
                refine tk 8 129 rfl ?_
                simp only [pa]
                refine tk 9 130 rfl ?_
                simp only [pa]
                refine tk 10 2 rfl ?_
                simp only [pa]
                have HE := hidP (hHeld.2.2.2.2.2.2.2.2)
                refine wpAnyH_done (by kernel_rfl) ?_ _
                clear hHeld
                go_wp2_with fail
                go_ret
                exact ⟨rfl, HB5.out.trans ((HD.out.trans (HE.out.mono HD.out.size)).mono HB5.out.size)⟩

set_option maxHeartbeats 1000000 in
theorem lawLeft9_all (a : Option Addr) (len cap : Nat) (w : World) (hB : Bytes w a len) :
    Calls Try.prog 4 #[.slice a len cap] w fun e w' => e = .returned (.bool true) ∧ Below w.heap.size w w' := by
  by_cases hl : len ≤ 1048576
  · exact lawLeft9 a len cap w hB hl
  · have hbig : ∀ wx : World, Calls Try.prog 6 #[.slice a len cap] wx fun e w' => e = .returned (.bool true) ∧ wx = w' := fun wx => by
      have d : decide ((1048576 : Int) < (len : Int)) = true := decide_eq_true (by omega)
      go_enter Try.func6, Try.ntmps6
      go_wp2
      go_ret
      exact ⟨rfl, rfl⟩
    have HG : Hid (∀ wx : World, _) := hbig
    clear hbig
    go_enter Try.func4, Try.ntmps4
    go_wp2_with fail
    refine (HG.out _).mono ?_
    rintro e w0 ⟨rfl, rfl⟩
    go_wp2_with fail
    go_ret
    exact ⟨rfl, Below.refl _ _⟩

set_option maxRecDepth 100000 in
theorem lawLeft9_lifted (os : Os) (started : os.Started) (H : Type) (enc : TypeId × Value → H) :
    ReturnsInHanded {} Try.checked os 4 .any (Rows.fnLeftSpec.pre6 enc Try.prog Try.f4 Rows.fnLeftRow.domain false) (Rows.fnLeftSpec.post enc Try.prog Try.f4 false true false false) := by
  refine returnsInHanded_of_change (C := Try.checked) Try.ownW started (by kernel_rfl) Try.func4
    (ChangeSpec.witness6 (enc := enc) (C := Try.checked) false ⟨#[], #[.slice none 0 0], []⟩ 8 (by kernel_rfl) (by kernel_rfl) (by kernel_rfl) (by kernel_rfl)) ?_
  intro W base args ds gs before hval0 hW _ _
  have hval : ∀ (j : Nat) t v, Try.f4.params[j]? = some t → args[j]? = some v → Value.okWide Try.prog W .any base t v := hval0
  have hW' := hW
  obtain ⟨p, q, hA0, hV, rfl, _, _⟩ := hW
  have hA : DataW.TrodAll enc Try.prog W 0 (fun _ => true) true Try.f4.params.toList args.toList ds p := hA0
  rw [Try.params4] at hA hval
  obtain ⟨v0, d0, rfl, rfl, h0⟩ := trodAll_one hA
  obtain ⟨rfl, rfl⟩ := trodVars_none hV
  obtain ⟨a0, len, cap, rfl⟩ := okWide_slice Try.underlying22 (hval 0 22 v0 rfl rfl)
  clear hA0 hval0
  simp only [List.append_nil] at hW'
  have hlt : ∀ x ∈ p, x.block < W.heap.size := fun x hx => by simpa using hW'.lt x hx
  refine (lawLeft9_all a0 len cap W (bytes_open h0)).mono fun e W' ⟨he, hb⟩ => ?_
  subst he
  exact ⟨_, rfl, ⟨_, _, _, [], p, [], hW', trodAll_mk1 (shut_bool Try.underlying4 true), trodAll_mk1 (Below.trod Try.laidOutW (by kernel_rfl) (of_decide_eq_true (by kernel_rfl)) h0 hb hlt), rfl, hb.frame _, fun h => by cases h⟩⟩

theorem lawLeft9_holds : Rows.FnLeftSaid :=
  OpenClaim.holds_of_wide 4 Try.f4 rfl rfl rfl rfl rfl rfl rfl ⟨rfl, rfl, rfl, rfl, rfl⟩ rfl rfl rfl rfl rfl (by kernel_rfl) Try.func4 (by kernel_rfl)
    (of_decide_eq_true (by kernel_rfl)) (by unfold Func.isWrapper; rw [if_neg (of_decide_eq_false (by kernel_rfl))]; exact ⟨rfl, rfl⟩)
    (fun os started H enc _ => lawLeft9_lifted os started H enc)

end Go.Proofs.Ytgohffeneibhdaa
