/-
  The specification's Unframe, by the plain reading.
-/
import Derived.Test.YtdcbmeiopfdkeabCUnI
import Derived.Test.YtdcbmeiopfdkeabCGetN
import Derived.Test.YtdcbmeiopfdkeabCGetA
namespace Go.Proofs.Ytdcbmeiopfdkeab
open Go.RowKit

theorem keepW {w X Y : World} (h : Below w.heap.size w X) (b : Below X.heap.size X Y) : Below w.heap.size w Y := h.trans (b.mono h.size)
theorem l3Little_ex (n : Int) (w : World) :
    Calls Try.prog 40 #[.int .i64 n] w fun e w' => ∃ g, e = .returned (.slice (some ⟨g, 0, none⟩) 4 4) ∧ Own w' w.heap.size (.slice (some ⟨g, 0, none⟩) 4 4) (lit n) ∧ Below w.heap.size w w' :=
  (l3Little_any n w).mono fun _ _ h => ⟨w.heap.size, h.1, h.2.1, h.2.2⟩
def torB (zs : List Int) (k : Nat) : Bool := match rdN zs k with | .torn => true | _ => false
theorem torB_t {zs : List Int} {k : Nat} (h : rdN zs k = .torn) : torB zs k = true := by unfold torB; rw [h]
theorem torB_b {zs : List Int} {k : Nat} (h : rdN zs k = .bad) : torB zs k = false := by unfold torB; rw [h]
theorem torB_g {zs : List Int} {k : Nat} {x : Int} {j : Nat} (h : rdN zs k = .good x j) : torB zs k = false := by unfold torB; rw [h]

set_option maxHeartbeats 4000000 in
theorem l3Short_any (a : Option Addr) (cap : Nat) (zs : List Int) (at' : Nat) (w : World) (hB : Byt w a zs) (hl : zs.length ≤ 9000000000) (hat : at' ≤ zs.length) :
    Calls Try.prog 43 #[.slice a zs.length cap, .int .i64 at'] w fun e w' => e = .returned (.bool (torB zs at')) ∧ w = w' := by
  obtain ⟨n, hn⟩ : ∃ n, n = zs.length := ⟨_, rfl⟩
  have HN := hid' hn
  have HB := hid' hB
  rw [← hn] at hl hat ⊢
  clear hn hB
  generalize hT : torB zs at' = T
  have HT := hid' hT
  clear hT
  go_enter Try.func43, Try.ntmps43
  go_wp2
  go_loop [5] (fun t5 => ∃ (k : Nat) (x : Int), k ≤ 10 ∧ at' + k ≤ n ∧ t5 = .int .i64 k ∧ rdF zs at' (10 - k) k x = rdN zs at') (fun t5 => 10 - (intOf t5).toNat)
  case atStart => exact ⟨0, 0, by omega, by omega, rfl, rfl⟩
  case round =>
    obtain ⟨k, x, hk, hkn, rfl, hr⟩ := hrel
    have HR := hid' hr
    clear hr
    by_cases hin : at' + k < n
    · have i1 : (at' : Int) + (k : Int) < (n : Int) := by omega
      have ne : ((at' : Int) + (k : Int) == (n : Int)) = false := by rw [beq_eq_false_iff_ne]; omega
      by_cases h10 : k < 10
      · obtain ⟨p, o, c, rfl, hp, hc, hz⟩ := HB.out (at' + k) (by rw [← HN.out]; exact hin)
        obtain ⟨f, hf⟩ : ∃ f, 10 - k = f + 1 := ⟨9 - k, by omega⟩
        by_cases h128 : 128 ≤ c
        · have HE : Hid (rdF zs at' (10 - (k + 1)) (k + 1) (acc x c k) = rdN zs at') := by
            unfold Hid; rw [← HR.out, hf, show 10 - (k + 1) = f from by omega, rdF_more hz h128]
          clear hz hf
          go_wp2
          go_round
          case rel => exact ⟨k + 1, _, by omega, by omega, by go_num, HE.out⟩
          case measure => simp [intOf]; omega
        · have HE : Hid (T = false) := by
            unfold Hid; rw [← HT.out]
            by_cases hb : (c = 0 ∧ 0 < k) ∨ (k = 9 ∧ 1 < c)
            · exact torB_b (by rw [← HR.out, hf]; exact rdF_bad hz h128 hb)
            · exact torB_g (by rw [← HR.out, hf]; exact rdF_good hz h128 hb)
          have d : decide (128 ≤ c) = false := decide_eq_false h128
          clear hz hf
          go_wp2
          go_ret
          exact ⟨by rw [HE.out]; rfl, rfl⟩
      · have HE : Hid (T = false) := by
          unfold Hid; rw [← HT.out]; refine torB_b ?_
          rw [← HR.out, show 10 - k = 0 from by omega]; rfl
        have d10 : decide ((k : Int) < 10) = false := decide_eq_false (by omega)
        go_wp2
        go_ret
        exact ⟨by rw [HE.out]; rfl, rfl⟩
    · have ee : (at' : Int) + (k : Int) = (n : Int) := by omega
      have d1 : decide ((at' : Int) + (k : Int) < (n : Int)) = false := decide_eq_false (by omega)
      have b1 : ((at' : Int) + (k : Int) == (n : Int)) = true := by rw [beq_iff_eq]; exact ee
      clear ee
      by_cases h10 : k < 10
      · have HE : Hid (T = true) := by
          unfold Hid; rw [← HT.out]; refine torB_t ?_
          rw [← HR.out, show 10 - k = (9 - k) + 1 from by omega]
          exact rdF_none (List.getElem?_eq_none (by have := HN.out; omega))
        have d10 : decide ((k : Int) < 10) = true := decide_eq_true (by omega)
        go_wp2
        go_ret
        exact ⟨by rw [HE.out]; rfl, rfl⟩
      · have HE : Hid (T = false) := by
          unfold Hid; rw [← HT.out]; refine torB_b ?_
          rw [← HR.out, show 10 - k = 0 from by omega]; rfl
        have d10 : decide ((k : Int) < 10) = false := decide_eq_false (by omega)
        go_wp2
        go_ret
        exact ⟨by rw [HE.out]; rfl, rfl⟩

set_option maxHeartbeats 8000000 in
theorem sUnframe_all (a : Option Addr) (cap : Nat) (zs : List Int) (at' : Int) (w : World) (hB : Byt w a zs) (ho : Oct zs) (hnc : zs.length ≤ cap) (hcap : cap ≤ 1000000000) (hl : zs.length ≤ 9000000) (ha : at' ≤ 9223372036854775807) (hna : a = none → cap = 0) :
    Calls Try.prog 25 #[.slice a zs.length cap, .int .i64 at'] w fun e w' => UfR (uf zs at') w e w' := by
  have HB := hid' hB
  have HO := hid' ho
  clear hB ho
  obtain ⟨n, hn⟩ : ∃ n, n = zs.length := ⟨_, rfl⟩
  have HN := hid' hn
  by_cases hin : 0 ≤ at' ∧ at' ≤ (zs.length : Int)
  · have HIN := hid' (decide_eq_true hin)
    obtain ⟨k0, rfl⟩ := Int.eq_ofNat_of_zero_le hin.1
    by_cases hend : k0 = zs.length
    · subst hend
      have HV := hid' (@uf_end zs)
      rw [← hn] at *
      clear hn hin
      go_enter Try.func25, Try.ntmps25
      go_wp2_with fail
      refine (l1In_any _ _ _ _).mono ?_
      rw [HIN.out]
      rintro e w1 ⟨rfl, rfl⟩
      go_wp2_with fail
      refine bodyPost_ret (v := .tuple #[.slice (some ⟨w.heap.size, 0, none⟩) 0 0, .int .i64 n, .int .i64 1]) (by simp [results, Try.results25, go_sem]) rfl ?_
      rw [HV.out]
      exact ufr_nil w w (Below.refl _ _) _ _ _ rfl
    · have hk : k0 < zs.length := by omega
      have HV := hid' (uf_in hk)
      have hgn := sGetNum_all a cap zs k0 w HB.out HO.out (by omega) ha
      have hsh := l3Short_any a cap zs k0 w HB.out (by omega) (by omega)
      have hne : ((k0 : Int) == (n : Int)) = false := by rw [beq_eq_false_iff_ne, hn]; omega
      have short : ∀ (p q : Int), gnV zs k0 = .tuple #[.int .i64 p, .int .i64 q, .bool false] → torB zs k0 = true → ufIn zs k0 = ⟨[], k0, 2⟩ → Calls Try.prog 25 #[.slice a zs.length cap, .int .i64 k0] w fun e w' => UfR (uf zs k0) w e w' := by
        intro p q h1 h2 h3
        rw [h1] at hgn
        rw [h2] at hsh
        have H3 := hid' h3
        rw [← hn] at *
        have HGn := hid' hgn
        have HSh := hid' hsh
        clear hn hin hend hgn hsh h1 h2 h3
        go_enter Try.func25, Try.ntmps25
        go_wp2_with fail
        refine (l1In_any _ _ _ _).mono ?_
        rw [HIN.out]
        rintro e w1 ⟨rfl, rfl⟩
        go_wp2_with fail
        refine HGn.out.mono ?_
        rintro e w1 ⟨rfl, rfl⟩
        go_wp2_with fail
        refine HSh.out.mono ?_
        rintro e w1 ⟨rfl, rfl⟩
        go_wp2_with fail
        refine bodyPost_ret (v := .tuple #[.slice (some ⟨w.heap.size, 0, none⟩) 0 0, .int .i64 k0, .int .i64 2]) (by simp [results, Try.results25, go_sem]) rfl ?_
        rw [HV.out, H3.out]
        exact ufr_nil w w (Below.refl _ _) _ _ _ rfl
      cases hr : rdN zs k0 with
      | torn => exact short _ _ (gnV_torn hr) (torB_t hr) (ufIn_torn hr)
      | bad =>
        have H3 := hid' (ufIn_bad hr)
        rw [gnV_bad hr] at hgn
        rw [torB_b hr] at hsh
        clear short
        rw [← hn] at *
        have HGn := hid' hgn
        have HSh := hid' hsh
        clear hn hin hend hgn hsh
        go_enter Try.func25, Try.ntmps25
        go_wp2_with fail
        refine (l1In_any _ _ _ _).mono ?_
        rw [HIN.out]
        rintro e w1 ⟨rfl, rfl⟩
        go_wp2_with fail
        refine HGn.out.mono ?_
        rintro e w1 ⟨rfl, rfl⟩
        go_wp2_with fail
        refine HSh.out.mono ?_
        rintro e w1 ⟨rfl, rfl⟩
        go_wp2_with fail
        refine bodyPost_ret (v := .tuple #[.slice (some ⟨w.heap.size, 0, none⟩) 0 0, .int .i64 k0, .int .i64 3]) (by simp [results, Try.results25, go_sem]) rfl ?_
        rw [HV.out, H3.out]
        exact ufr_nil w w (Below.refl _ _) _ _ _ rfl
      | good x k =>
        have hle := rdN_le hr
        rw [gnV_good hr] at hgn
        rw [torB_g hr] at hsh
        clear short
        by_cases hx : 0 ≤ wrap64 x ∧ wrap64 x ≤ 20000
        · have HX := hid' (decide_eq_true hx)
          obtain ⟨c, hc⟩ := Int.eq_ofNat_of_zero_le hx.1
          have hc2 : c ≤ 20000 := by omega
          rw [hc] at HX hgn
          by_cases hcut : k0 + k + c + 4 ≤ zs.length
          · have hsl := sub_len (zs := zs) (k := k0) (c := k + c) (by omega)
            have hs4 := sub_len (zs := zs) (k := k0 + k + c) (c := 4) (by omega)
            have hcI := sub_len (zs := zs) (k := k0 + k) (c := c) (by omega)
            have hsum : ∀ wx, Below w.heap.size w wx → Calls Try.prog 21 #[.slice (a.map fun x => x.add k0) (k0 + k + c - k0) (cap - k0)] wx fun e w' => e = .returned (.int .i64 (crc (sub zs k0 (k + c)))) ∧ wx = w' := by
              intro wx hb
              have h := sSum_any (a.map fun x => x.add k0) (cap - k0) (sub zs k0 (k + c)) wx ((HB.out.cut k0 (k + c) (by omega)).later hb) (sub_oct HO.out _ _) (by omega)
              rw [hsl, show k + c = k0 + k + c - k0 from by omega] at h
              rw [show k0 + k + c - k0 = k + c from by omega] at h ⊢
              exact h
            have hsame : ∀ wx g, Below w.heap.size w wx → Byt wx (some ⟨g, 0, none⟩) (lit (crc (sub zs k0 (k + c)))) → Calls Try.prog 44 #[.slice (some ⟨g, 0, none⟩) 4 4, .slice (a.map fun x => x.add (k0 + k + c)) 4 (cap - (k0 + k + c))] wx fun e w' => e = .returned (.bool (eqL (lit (crc (sub zs k0 (k + c)))) (sub zs (k0 + k + c) 4))) ∧ Below wx.heap.size wx w' := by
              intro wx g hb hg
              have h := l3Same_any (some ⟨g, 0, none⟩) (a.map fun x => x.add (k0 + k + c)) 4 (cap - (k0 + k + c)) (lit (crc (sub zs k0 (k + c)))) (sub zs (k0 + k + c) 4) wx hg ((HB.out.cut (k0 + k + c) 4 (by omega)).later hb) (by simp [lit]) (by omega)
              rw [hs4, show (lit (crc (sub zs k0 (k + c)))).length = 4 from rfl] at h
              exact h
            have HSum := hid' hsum
            have HSame := hid' hsame
            have HHc := hid' hcut
            have HcI := hid' hcI
            have HR := hid' hr
            have HCx := hid' hc
            have HA' := hid' hna
            clear hsum hsame hs4 hsl hcI
            rw [← hn] at hgn hsh hnc hl hcut hk hle HIN ⊢
            have d4 : ¬ (n : Int) - ((k0 : Int) + (k : Int)) < (c : Int) + 4 := by omega
            have c1 : ¬ cap = k0 := by omega
            have c2 : ¬ cap = k0 + k + c := by omega
            have c3 : ¬ cap = k0 + k := by omega
            have q1 : (0 : Int) ≤ (k0 : Int) := by omega
            have q2 : (k0 : Int) ≤ (k0 : Int) + k + c := by omega
            have q3 : (k0 : Int) + k + c ≤ (cap : Int) := by omega
            have q4 : (0 : Int) ≤ (k0 : Int) + k + c := by omega
            have q5 : (k0 : Int) + k + c + 4 ≤ (cap : Int) := by omega
            have q6 : (k0 : Int) + k + c ≤ (k0 : Int) + k + c + 4 := by omega
            have v1 : IntKind.i64.wrap ((k0 : Int) + k + c) = (k0 : Int) + k + c := by rw [IntKind.wrap_i64]; omega
            have v2 : IntKind.i64.wrap ((k0 : Int) + k + c + 4) = (k0 : Int) + k + c + 4 := by rw [IntKind.wrap_i64]; omega
            have t1 : ((k0 : Int) + k + c).toNat = k0 + k + c := by omega
            have t2 : ((k0 : Int) + k + c + 4).toNat = k0 + k + c + 4 := by omega
            have c1' : cap - k0 ≠ 0 := by omega
            have c2' : cap - (k0 + k + c) ≠ 0 := by omega
            have HGn := hid' hgn
            have HSh := hid' hsh
            clear hn hin hend hgn hsh hr hx hc hna
            go_enter Try.func25, Try.ntmps25
            go_wp2_with fail
            refine (l1In_any _ _ _ _).mono ?_
            rw [HIN.out]
            rintro e w1 ⟨rfl, rfl⟩
            go_wp2_with fail
            refine HGn.out.mono ?_
            rintro e w1 ⟨rfl, rfl⟩
            go_wp2_with fail
            refine HSh.out.mono ?_
            rintro e w1 ⟨rfl, rfl⟩
            go_wp2_with fail
            refine (l1In_any _ _ _ _).mono ?_
            rw [HX.out]
            rintro e w1 ⟨rfl, rfl⟩
            go_wp2_with fail
            go_region_held3 (fun w' => Below w.heap.size w w') (first | (with_reducible exact (Below.refl _ _).drew) | (with_reducible exact keepW (by assumption) bQ) | (with_reducible exact keepW (by assumption) bL) | assumption)
              (first | (go_at_call 21; refine (HSum.out _ (by assumption)).mono ?_; rintro e wS ⟨rfl, rfl⟩) | (go_at_call 40; refine (l3Little_ex _ _).mono ?_; rintro e wL ⟨gL, rfl, oL, bL⟩) | (go_at_call 44; refine (HSame.out _ _ (by assumption) oL.bytA).mono ?_; rintro e wQ ⟨rfl, bQ⟩))
            have HBQ : Hid (Below w.heap.size w wQ) := by assumption
            clear v1 v2 t1 t2 q1 q2 q3 q4 q5 q6
            by_cases hs : lit (crc (sub zs k0 (k + c))) = sub zs (k0 + k + c) 4
            · have H3 := hid' (ufIn_good HR.out HCx.out hc2 HHc.out hs)
              have he : eqL (lit (crc (sub zs k0 (k + c)))) (sub zs (k0 + k + c) 4) = true := by rw [hs]; exact eqL_same _
              rw [he]
              clear he hs
              have HS5 : Hid (Byt (wQ.alloc (.cells #[] 5)) (a.map fun x => x.add (k0 + k)) (sub zs (k0 + k) c)) := ((HB.out.cut (k0 + k) c (by have := HHc.out; omega)).later HBQ.out).later ((Below.refl _ wQ).alloc (Nat.le_refl _) _)
              have HOW : Hid (Own (wQ.alloc (.cells #[] 5)) w.heap.size (.slice (some ⟨wQ.heap.size, 0, none⟩) 0 0) []) := World.ownsRow_lit wQ #[] 0 HBQ.out.size (by unfold maxLen; omega) (by simp)
              have HBZ := hid' (HBQ.out.alloc HBQ.out.size (.cells #[] 5))
              have hsrc := src_byt (cap - (k0 + k)) HS5.out (fun e => by have := HA'.out (by cases a with | none => rfl | some _ => simp at e); omega)
              rw [HcI.out] at hsrc
              have hkc : k0 + k + c - (k0 + k) = c := by omega
              have HSrc : Hid (Src Try.prog 1 22 (.slice (a.map fun x => x.add (k0 + k)) (k0 + k + c - (k0 + k)) (cap - (k0 + k))) (sub zs (k0 + k) c).length ((sub zs (k0 + k) c).map (Value.int .u8)) (wQ.alloc (.cells #[] 5))) := by rw [hkc, HcI.out]; exact hsrc
              clear hsrc hkc
              go_wp2_with (at_builtin; refine wpList_app _ rfl (.tmp 78) (.tmp 84) 22 rfl w.heap.size wQ.heap.size 0 0 [] (sub zs (k0 + k) c) _ _ rfl rfl rfl HOW.out rfl HSrc.out (by rw [HcI.out]; omega) HBZ.out.size ?_; intro h' c' w6 hown hgr hat)
              have HO6 : Hid (Own w6 w.heap.size (.slice (some ⟨h', 0, none⟩) (sub zs (k0 + k) c).length c') (sub zs (k0 + k) c)) := by simpa using hid' hown
              have HB6 := hid' (below_app HBZ.out HOW.out HBZ.out.size hgr)
              have E4 := hid' (show ((k0 + k + c + 4 : Nat) : Int) = (k0 : Int) + k + c + 4 by omega)
              clear hown hgr hat
              refine bodyPost_ret (v := .tuple #[.slice (some ⟨h', 0, none⟩) (sub zs (k0 + k) c).length c', .int .i64 ((k0 : Int) + k + c + 4), .int .i64 0]) (by simp [results, Try.results25, go_sem]) rfl ?_
              rw [HV.out, H3.out]
              exact ⟨h', c', by rw [E4.out], HO6.out, HB6.out⟩
            · have H3 := hid' (ufIn_sum HR.out HCx.out hc2 HHc.out hs)
              have he : eqL (lit (crc (sub zs k0 (k + c)))) (sub zs (k0 + k + c) 4) = false := decide_eq_false hs
              rw [he]
              clear he hs
              go_wp2_with fail
              refine bodyPost_ret (v := .tuple #[.slice (some ⟨wQ.heap.size, 0, none⟩) 0 0, .int .i64 k0, .int .i64 3]) (by simp [results, Try.results25, go_sem]) rfl ?_
              rw [HV.out, H3.out]
              exact ufr_nil w wQ HBQ.out _ _ _ rfl
          · have H3 := hid' (ufIn_cut hr hx (by rw [hc]; omega))
            rw [← hn] at *
            have d4 : (n : Int) - ((k0 : Int) + (k : Int)) < (c : Int) + 4 := by omega
            have HGn := hid' hgn
            have HSh := hid' hsh
            clear hn hin hend hgn hsh hr hx hc
            go_enter Try.func25, Try.ntmps25
            go_wp2_with fail
            refine (l1In_any _ _ _ _).mono ?_
            rw [HIN.out]
            rintro e w1 ⟨rfl, rfl⟩
            go_wp2_with fail
            refine HGn.out.mono ?_
            rintro e w1 ⟨rfl, rfl⟩
            go_wp2_with fail
            refine HSh.out.mono ?_
            rintro e w1 ⟨rfl, rfl⟩
            go_wp2_with fail
            refine (l1In_any _ _ _ _).mono ?_
            rw [HX.out]
            rintro e w1 ⟨rfl, rfl⟩
            go_wp2_with fail
            refine bodyPost_ret (v := .tuple #[.slice (some ⟨w.heap.size, 0, none⟩) 0 0, .int .i64 k0, .int .i64 2]) (by simp [results, Try.results25, go_sem]) rfl ?_
            rw [HV.out, H3.out]
            exact ufr_nil w w (Below.refl _ _) _ _ _ rfl
        · have H3 := hid' (ufIn_far hr hx)
          have HX := hid' (decide_eq_false hx)
          rw [← hn] at *
          have HGn := hid' hgn
          have HSh := hid' hsh
          clear hn hin hend hgn hsh hr hx
          generalize wrap64 x = y at *
          go_enter Try.func25, Try.ntmps25
          go_wp2_with fail
          refine (l1In_any _ _ _ _).mono ?_
          rw [HIN.out]
          rintro e w1 ⟨rfl, rfl⟩
          go_wp2_with fail
          refine HGn.out.mono ?_
          rintro e w1 ⟨rfl, rfl⟩
          go_wp2_with fail
          refine HSh.out.mono ?_
          rintro e w1 ⟨rfl, rfl⟩
          go_wp2_with fail
          refine (l1In_any _ _ _ _).mono ?_
          rw [HX.out]
          rintro e w1 ⟨rfl, rfl⟩
          go_wp2_with fail
          refine bodyPost_ret (v := .tuple #[.slice (some ⟨w.heap.size, 0, none⟩) 0 0, .int .i64 k0, .int .i64 3]) (by simp [results, Try.results25, go_sem]) rfl ?_
          rw [HV.out, H3.out]
          exact ufr_nil w w (Below.refl _ _) _ _ _ rfl
  · have HIN := hid' (decide_eq_false hin)
    have HV := hid' (uf_out hin)
    rw [← hn] at *
    clear hn hin
    go_enter Try.func25, Try.ntmps25
    go_wp2_with fail
    refine (l1In_any _ _ _ _).mono ?_
    rw [HIN.out]
    rintro e w1 ⟨rfl, rfl⟩
    go_wp2_with fail
    refine bodyPost_ret (v := .tuple #[.slice (some ⟨w.heap.size, 0, none⟩) 0 0, .int .i64 at', .int .i64 3]) (by simp [results, Try.results25, go_sem]) rfl ?_
    rw [HV.out]
    exact ufr_nil w w (Below.refl _ _) _ _ _ rfl

end Go.Proofs.Ytdcbmeiopfdkeab
