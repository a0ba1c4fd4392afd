/-
  Both GetAddr answer what the plain reading says, wherever they are asked to read.
-/
import Derived.Test.YtdcbmeiopfdkeabCAtA
import Derived.Test.YtdcbmeiopfdkeabAOk
namespace Go.Proofs.Ytdcbmeiopfdkeab
open Go.RowKit

set_option maxHeartbeats 1000000 in
theorem l1In_any (x lo hi : Int) (w : World) :
    Calls Try.prog 35 #[.int .i64 x, .int .i64 lo, .int .i64 hi] w fun e w' => e = .returned (.bool (decide (lo ≤ x ∧ x ≤ hi))) ∧ w = w' := by
  by_cases h1 : lo ≤ x
  · by_cases h2 : x ≤ hi
    · rw [decide_eq_true (And.intro h1 h2)]
      go_enter Try.func35, Try.ntmps35
      go_wp2
      go_ret
      exact ⟨rfl, rfl⟩
    · rw [decide_eq_false (fun h => h2 h.2)]
      have d : decide (x ≤ hi) = false := decide_eq_false h2
      go_enter Try.func35, Try.ntmps35
      go_wp2
      go_ret
      exact ⟨rfl, rfl⟩
  · rw [decide_eq_false (fun h => h1 h.1)]
    have d : decide (lo ≤ x) = false := decide_eq_false h1
    go_enter Try.func35, Try.ntmps35
    go_wp2
    go_ret
    exact ⟨rfl, rfl⟩

theorem l3Read_at (c : Nat) (a : Option Addr) (cap : Nat) (zs : List Int) (at' : Nat) (A : Int) (hA : A = (at' : Int)) (w : World) (hB : Byt w a zs) (ho : Oct zs) (hl : zs.length ≤ 9000000000) (hin : at' + c ≤ zs.length) :
    Calls Try.prog 36 #[.slice a zs.length cap, .int .i64 A, .int .i64 c] w fun e w' => e = .returned (.int .i64 (wv (sub zs at' c)).toInt) ∧ w = w' := by
  subst hA; exact l3Read_any c a cap zs at' w hB ho hl hin

theorem gaV_form (zs : List Int) (a : Int) : ∃ (s : Bool) (h l q : Int) (r : Bool), gaV zs a = .tuple #[.agg #[.bool s, .int .i64 h, .int .i64 l], .int .i64 q, .bool r] := by
  unfold gaV gaNo ga4 ga6; split
  · exact ⟨_, _, _, _, _, rfl⟩
  · split
    · exact ⟨_, _, _, _, _, rfl⟩
    · split
      · exact ⟨_, _, _, _, _, rfl⟩
      · exact ⟨_, _, _, _, _, rfl⟩

set_option maxHeartbeats 4000000 in
theorem sGetAddr_all (a : Option Addr) (cap : Nat) (zs : List Int) (at' : Int) (w : World) (hB : Byt w a zs) (ho : Oct zs) (hl : zs.length ≤ 9000000000) :
    Calls Try.prog 18 #[.slice a zs.length cap, .int .i64 at'] w fun e w' => e = .returned (gaV zs at') ∧ Below w.heap.size w w' := by
  have HB := hid' (hB.later ((Below.refl _ w).alloc (Nat.le_refl _) (.cells #[.bool false, .int .i64 0, .int .i64 0] 31)))
  have HB0 := hid' hB
  have HO := hid' ho
  clear hB ho
  by_cases hin : 0 ≤ at' ∧ at' ≤ (zs.length : Int) - 1
  · obtain ⟨k, rfl⟩ := Int.eq_ofNat_of_zero_le hin.1
    have hk : k < zs.length := by omega
    obtain ⟨p, o, c, ha, hp, hc, hz⟩ := HB.out k hk
    obtain ⟨z0, z1⟩ := HO.out c (List.mem_of_getElem? hz)
    have HZ := hid' hz
    have HIN := hid' (decide_eq_true hin)
    obtain ⟨n, hn⟩ : ∃ n, n = zs.length := ⟨_, rfl⟩
    have HN := hid' hn
    clear hz hin
    rw [← hn] at hk hl HIN ⊢
    clear hn
    have kn : (k : Int) < (n : Int) := by omega
    by_cases h4 : c = 4 ∧ k + 5 ≤ n
    · obtain ⟨rfl, h5⟩ := h4
      have HV := hid' (gaV_4 HZ.out (by rw [← HN.out]; exact h5))
      go_enter Try.func18, Try.ntmps18
      go_wp2_with fail
      refine (l1In_any _ _ _ _).mono ?_
      rw [HIN.out]
      rintro e w1 ⟨rfl, rfl⟩
      have hrd := l3Read_at 4 a cap zs (k + 1) ((k : Int) + 1) rfl _ HB.out HO.out (by have := HN.out; omega) (by have := HN.out; omega)
      rw [← HN.out] at hrd
      have HRD := hid' hrd
      clear hrd
      subst ha
      generalize hL : (wv (sub zs (k + 1) 4)).toInt = L at *
      have HL := hid' hL
      clear hL
      go_wp2_with fail
      refine HRD.out.mono ?_
      rintro e w1 ⟨rfl, rfl⟩
      go_wp2_with fail
      refine bodyPost_ret (v := .tuple #[.agg #[.bool false, .int .i64 0, .int .i64 L], .int .i64 ((k : Int) + 5), .bool true]) (by simp [results, Try.results18, go_sem]) rfl ⟨by rw [HV.out]; unfold ga4; rw [HL.out], ?_⟩
      repeat (first | with_reducible exact Below.refl _ _ | (with_reducible refine Below.setCell ?_ (by first | omega | (simp; done) | (simp; omega)) _) | (with_reducible refine Below.alloc ?_ (by first | omega | (simp; done) | (simp; omega)) _))
    · by_cases h6 : c = 6 ∧ k + 17 ≤ n
      · obtain ⟨rfl, h5⟩ := h6
        have HV := hid' (gaV_6 HZ.out (by rw [← HN.out]; exact h5))
        have hrd := l3Read_at 8 a cap zs (k + 1) ((k : Int) + 1) rfl _ HB.out HO.out (by have := HN.out; omega) (by have := HN.out; omega)
        have hrd2 := l3Read_at 8 a cap zs (k + 9) ((k : Int) + 9) rfl _ HB.out HO.out (by have := HN.out; omega) (by have := HN.out; omega)
        rw [← HN.out] at hrd hrd2
        have HRD := hid' hrd
        have HRD2 := hid' hrd2
        clear hrd hrd2 h4
        subst ha
        generalize hH : (wv (sub zs (k + 1) 8)).toInt = H at *
        generalize hL : (wv (sub zs (k + 9) 8)).toInt = L at *
        have HL := hid' hL
        have HH := hid' hH
        clear hL hH
        go_enter Try.func18, Try.ntmps18
        go_wp2_with fail
        refine (l1In_any _ _ _ _).mono ?_
        rw [HIN.out]
        rintro e w1 ⟨rfl, rfl⟩
        go_wp2_with fail
        refine HRD.out.mono ?_
        rintro e w1 ⟨rfl, rfl⟩
        go_wp2_with fail
        refine HRD2.out.mono ?_
        rintro e w1 ⟨rfl, rfl⟩
        go_wp2_with fail
        refine bodyPost_ret (v := .tuple #[.agg #[.bool true, .int .i64 H, .int .i64 L], .int .i64 ((k : Int) + 17), .bool true]) (by simp [results, Try.results18, go_sem]) rfl ⟨by rw [HV.out]; unfold ga6; rw [HL.out, HH.out], ?_⟩
        repeat (first | with_reducible exact Below.refl _ _ | (with_reducible refine Below.setCell ?_ (by first | omega | (simp; done) | (simp; omega)) _) | (with_reducible refine Below.alloc ?_ (by first | omega | (simp; done) | (simp; omega)) _))
      · have HV : Hid (gaV zs (k : Int) = gaNo) := gaV_no (fun hh => h4 ⟨by have := HZ.out; rw [this] at hh; simpa using hh.1, by rw [HN.out]; exact hh.2⟩) (fun hh => h6 ⟨by have := HZ.out; rw [this] at hh; simpa using hh.1, by rw [HN.out]; exact hh.2⟩)
        have h4' : (c == 4) = true → (n : Int) - (k : Int) < 5 := by intro e; rw [beq_iff_eq] at e; by_cases q : k + 5 ≤ n; exact absurd ⟨e, q⟩ h4; omega
        have h6' : (c == 6) = true → (n : Int) - (k : Int) < 17 := by intro e; rw [beq_iff_eq] at e; by_cases q : k + 17 ≤ n; exact absurd ⟨e, q⟩ h6; omega
        have H4' := hid' h4'
        have H6' := hid' h6'
        clear h4 h6 h4' h6'
        subst ha
        have fin : ∀ (b4 b6 : Bool), (c == 4) = b4 → (c == 6) = b6 → Calls Try.prog 18 #[.slice (some ⟨p, o, none⟩) n cap, .int .i64 k] w fun e w' => e = .returned (gaV zs k) ∧ Below w.heap.size w w' := by
          intro b4 b6 e4 e6
          cases b4
          · cases b6
            · go_enter Try.func18, Try.ntmps18
              go_wp2_with fail
              refine (l1In_any _ _ _ _).mono ?_
              rw [HIN.out]
              rintro e w1 ⟨rfl, rfl⟩
              go_wp2_with fail
              refine bodyPost_ret (v := gaNo) (by simp [gaNo, results, Try.results18, go_sem]) rfl ⟨by rw [HV.out], ?_⟩
              repeat (first | with_reducible exact Below.refl _ _ | (with_reducible refine Below.setCell ?_ (by first | omega | (simp; done) | (simp; omega)) _) | (with_reducible refine Below.alloc ?_ (by first | omega | (simp; done) | (simp; omega)) _))
            · have q := H6'.out e6
              have d : decide ((17 : Int) ≤ (n : Int) - (k : Int)) = false := decide_eq_false (by omega)
              go_enter Try.func18, Try.ntmps18
              go_wp2_with fail
              refine (l1In_any _ _ _ _).mono ?_
              rw [HIN.out]
              rintro e w1 ⟨rfl, rfl⟩
              go_wp2_with fail
              refine bodyPost_ret (v := gaNo) (by simp [gaNo, results, Try.results18, go_sem]) rfl ⟨by rw [HV.out], ?_⟩
              repeat (first | with_reducible exact Below.refl _ _ | (with_reducible refine Below.setCell ?_ (by first | omega | (simp; done) | (simp; omega)) _) | (with_reducible refine Below.alloc ?_ (by first | omega | (simp; done) | (simp; omega)) _))
          · have q := H4'.out e4
            have d : decide ((5 : Int) ≤ (n : Int) - (k : Int)) = false := decide_eq_false (by omega)
            have e6' : (c == 6) = false := by rw [beq_iff_eq] at e4; subst e4; rfl
            clear e6
            go_enter Try.func18, Try.ntmps18
            go_wp2_with fail
            refine (l1In_any _ _ _ _).mono ?_
            rw [HIN.out]
            rintro e w1 ⟨rfl, rfl⟩
            go_wp2_with fail
            refine bodyPost_ret (v := gaNo) (by simp [gaNo, results, Try.results18, go_sem]) rfl ⟨by rw [HV.out], ?_⟩
            repeat (first | with_reducible exact Below.refl _ _ | (with_reducible refine Below.setCell ?_ (by first | omega | (simp; done) | (simp; omega)) _) | (with_reducible refine Below.alloc ?_ (by first | omega | (simp; done) | (simp; omega)) _))
        exact fin _ _ rfl rfl
  · have HIN := hid' (decide_eq_false hin)
    have HV : Hid (gaV zs at' = gaNo) := by
      by_cases h : at' < 0
      · exact gaV_neg h
      · obtain ⟨k, rfl⟩ := Int.eq_ofNat_of_zero_le (show 0 ≤ at' by omega)
        exact gaV_no (fun hh => by omega) (fun hh => by omega)
    clear hin
    go_enter Try.func18, Try.ntmps18
    go_wp2_with fail
    refine (l1In_any _ _ _ _).mono ?_
    rw [HIN.out]
    rintro e w1 ⟨rfl, rfl⟩
    go_wp2_with fail
    refine bodyPost_ret (v := gaNo) (by simp [gaNo, results, Try.results18, go_sem]) rfl ⟨by rw [HV.out], ?_⟩
    repeat (first | with_reducible exact Below.refl _ _ | (with_reducible refine Below.setCell ?_ (by first | omega | (simp; done) | (simp; omega)) _) | (with_reducible refine Below.alloc ?_ (by first | omega | (simp; done) | (simp; omega)) _))

set_option maxHeartbeats 2000000 in
theorem iGetAddr_all (a : Option Addr) (cap : Nat) (zs : List Int) (at' : Int) (w : World) (hB : Byt w a zs) (ho : Oct zs) (hnc : zs.length ≤ cap) (hcap : cap ≤ 1000000000000) :
    Calls Try.prog 19 #[.slice a zs.length cap, .int .i64 at'] w fun e w' => e = .returned (gaV zs at') ∧ Below w.heap.size w w' := by
  have HB := hid' (hB.later ((Below.refl _ w).alloc (Nat.le_refl _) (.cells #[.bool false, .int .i64 0, .int .i64 0] 31)))
  have HO := hid' ho
  clear hB ho
  by_cases hout : at' < 0 ∨ (zs.length : Int) < at'
  · have HV : Hid (gaV zs at' = gaNo) := by
      by_cases h : at' < 0
      · exact gaV_neg h
      · obtain ⟨k, rfl⟩ := Int.eq_ofNat_of_zero_le (show 0 ≤ at' by omega)
        exact gaV_no (fun hh => by omega) (fun hh => by omega)
    have HOut := hid' hout
    clear hout
    go_enter Try.func19, Try.ntmps19
    go_wp2_with fail
    refine (readAtA_out a zs.length cap at' _ _ HOut.out).mono ?_
    rintro e w1 ⟨rfl, hb⟩
    have hz1 : w.heap.size < w1.heap.size := by have := hb.size; simp at this; omega
    obtain ⟨hc, hf⟩ := olds (n := w.heap.size + 1) (hb.mono (by simp))
    have HB1 := hid' (((Below.refl _ w).alloc (Nat.le_refl _) _).trans (hb.mono (by simp)))
    clear hb
    go_wp2_with fail
    refine bodyPost_ret (v := gaNo) (by simp [gaNo, results, Try.results19, go_sem, hc, hz1]) rfl ⟨by rw [HV.out], ?_⟩
    repeat (first | with_reducible exact HB1.out | (with_reducible refine Below.setCell ?_ (by first | omega | (simp; done) | (simp; omega)) _) | (with_reducible refine Below.alloc ?_ (by first | omega | (simp; done) | (simp; omega)) _))
  · obtain ⟨k, rfl⟩ := Int.eq_ofNat_of_zero_le (show 0 ≤ at' by omega)
    have hk : k ≤ zs.length := by omega
    clear hout
    go_enter Try.func19, Try.ntmps19
    go_wp2_with fail
    refine (readAtA_in (fun s h l j => gaV zs (k : Int) = .tuple #[.agg #[.bool s, .int .i64 h, .int .i64 l], .int .i64 ((j : Nat) : Int), .bool true]) (fun f => f ≠ 0 ∧ gaV zs (k : Int) = gaNo) a zs.length cap k zs _ HB.out rfl hnc hcap hk (fun wr hr => (addr_any _ a _ cap k zs wr hr HO.out).mono ?_)).mono ?_
    · rintro e w' ⟨⟨s, h, l, j, hv, rfl, hrd⟩ | ⟨f, hv, hf, rfl⟩, hgr⟩
      · exact ⟨Or.inl ⟨s, h, l, j, rfl, hrd, hv⟩, hgr⟩
      · exact ⟨Or.inr ⟨f, rfl, hf, hv⟩, hgr⟩
    · rintro e w1 ⟨⟨s, h, l, j, rfl, hv⟩ | ⟨f, rfl, hf, hv⟩, hb⟩
      · have HV := hid' hv
        have hz1 : w.heap.size < w1.heap.size := by have := hb.size; simp at this; omega
        obtain ⟨hc, hf⟩ := olds (n := w.heap.size + 1) (hb.mono (by simp))
        have HB1 := hid' (((Below.refl _ w).alloc (Nat.le_refl _) _).trans (hb.mono (by simp)))
        clear hb hv
        go_wp2_with fail
        refine bodyPost_ret (v := .tuple #[.agg #[.bool s, .int .i64 h, .int .i64 l], .int .i64 (j : Int), .bool true]) (by simp [results, Try.results19, go_sem, hc, hz1]) rfl ⟨by rw [HV.out], ?_⟩
        repeat (first | with_reducible exact HB1.out | (with_reducible refine Below.setCell ?_ (by first | omega | (simp; done) | (simp; omega)) _) | (with_reducible refine Below.alloc ?_ (by first | omega | (simp; done) | (simp; omega)) _))
      · have HV := hid' hv
        have hf0 : (f == 0) = false := by rw [beq_eq_false_iff_ne]; exact hf
        have hz1 : w.heap.size < w1.heap.size := by have := hb.size; simp at this; omega
        obtain ⟨hc, hfr⟩ := olds (n := w.heap.size + 1) (hb.mono (by simp))
        have HB1 := hid' (((Below.refl _ w).alloc (Nat.le_refl _) _).trans (hb.mono (by simp)))
        clear hb hv hf
        go_wp2_with fail
        refine bodyPost_ret (v := gaNo) (by simp [gaNo, results, Try.results19, go_sem, hc, hz1]) rfl ⟨by rw [HV.out], ?_⟩
        repeat (first | with_reducible exact HB1.out | (with_reducible refine Below.setCell ?_ (by first | omega | (simp; done) | (simp; omega)) _) | (with_reducible refine Below.alloc ?_ (by first | omega | (simp; done) | (simp; omega)) _))

end Go.Proofs.Ytdcbmeiopfdkeab
