/-
  The specification's ParsePrefix at every text: the right prefix whose text it is, and true; or the zero one and false. Nothing old in memory turns.
-/
import Derived.Test.YtofnnpjadehgmaaDoorDPp
namespace Go.Proofs.YtofnnpjadehgmaaDoor
open Go.RowKit

set_option maxRecDepth 10000 in
set_option maxHeartbeats 4000000 in
theorem sPrefix_any (l : List UInt8) (w : World) (hbig : l.length ≤ 1048576) :
    Calls Tryd.prog 18 #[.string ⟨l.toArray⟩] w fun e w' => ((∃ S H L b, IsP l S H L b ∧ e = .returned (.tuple #[.agg #[.bool S, .int .i64 H.toInt, .int .i64 L.toInt, .int .i64 b], .bool true])) ∨ ((¬ ∃ S H L b, IsP l S H L b) ∧ e = .returned (.tuple #[.agg #[.bool false, .int .i64 0, .int .i64 0, .int .i64 0], .bool false]))) ∧ Below w.heap.size w w' := by
  obtain ⟨Q, hQ⟩ : ∃ Q : List UInt8 → Bool → BitVec 64 → BitVec 64 → Int → Prop, Q = IsP := ⟨_, rfl⟩
  rw [← hQ]
  have HQ := hidP hQ
  clear hQ
  go_enter Tryd.func18, Tryd.ntmps18
  go_wp2_with fail
  have k0 : (w.alloc (.cells #[.bool false, .int .i64 0, .int .i64 0, .int .i64 0] 39)).cell? ⟨w.heap.size, 0, none⟩ = some (.bool false) := by simp [go_sem]
  have k1 : (w.alloc (.cells #[.bool false, .int .i64 0, .int .i64 0, .int .i64 0] 39)).cell? ⟨w.heap.size, 1, none⟩ = some (.int .i64 0) := by simp [go_sem]
  have k2 : (w.alloc (.cells #[.bool false, .int .i64 0, .int .i64 0, .int .i64 0] 39)).cell? ⟨w.heap.size, 2, none⟩ = some (.int .i64 0) := by simp [go_sem]
  have k3 : (w.alloc (.cells #[.bool false, .int .i64 0, .int .i64 0, .int .i64 0] 39)).cell? ⟨w.heap.size, 3, none⟩ = some (.int .i64 0) := by simp [go_sem]
  have kf : ∀ o, (w.alloc (.cells #[.bool false, .int .i64 0, .int .i64 0, .int .i64 0] 39)).frozen? ⟨w.heap.size, o, none⟩ = false := fun o => by simp [go_sem]
  have s0 : (w.alloc (.cells #[.bool false, .int .i64 0, .int .i64 0, .int .i64 0] 39)).heap.size = w.heap.size + 1 := by simp
  have HB0 : Hid (Below w.heap.size w (w.alloc (.cells #[.bool false, .int .i64 0, .int .i64 0, .int .i64 0] 39))) := hidP ((Below.refl _ w).alloc (Nat.le_refl _) _)
  generalize (w.alloc (.cells #[.bool false, .int .i64 0, .int .i64 0, .int .i64 0] 39)) = W0 at *
  refine (sSplit47 l _ (by omega)).mono ?_
  rintro e w1 ⟨a, c, rfl, ho, hb⟩
  have HC := hidP (splA_bd 47 l [])
  have HN2 := hidP (fun h => isP_no2 (l := l) h)
  have HNT := hidP (fun q0 q1 h1 h2 => isP_noT (l := l) (q0 := q0) (q1 := q1) h1 h2)
  have HNN := hidP (fun q0 q1 h1 h2 => isP_noN (l := l) (q0 := q0) (q1 := q1) h1 h2)
  have HNP := hidP (fun q0 q1 S H L b h1 h2 h3 h4 => isP_not (l := l) (q0 := q0) (q1 := q1) (S := S) (H := H) (L := L) (b := b) h1 h2 h3 h4)
  have HSP : Hid (l = [] → splA 47 [] l = [[]]) := hidP (fun h => by rw [h]; rfl)
  generalize splA 47 [] l = T at *
  have k0 := (hb.cell (p := ⟨w.heap.size, 0, none⟩) (by show w.heap.size < _; first | omega | (simp; omega))).trans k0
  have k1 := (hb.cell (p := ⟨w.heap.size, 1, none⟩) (by show w.heap.size < _; first | omega | (simp; omega))).trans k1
  have k2 := (hb.cell (p := ⟨w.heap.size, 2, none⟩) (by show w.heap.size < _; first | omega | (simp; omega))).trans k2
  have k3 := (hb.cell (p := ⟨w.heap.size, 3, none⟩) (by show w.heap.size < _; first | omega | (simp; omega))).trans k3
  have kf : ∀ o, w1.frozen? ⟨w.heap.size, o, none⟩ = false := fun o => (hb.frozen (p := ⟨w.heap.size, o, none⟩) (by show w.heap.size < _; first | omega | (simp; omega))).trans (kf o)
  have HBw := hidP (HB0.out.trans (hb.mono HB0.out.size))
  have hS1 : w.heap.size + 1 ≤ w1.heap.size := by have := hb.size; omega
  have HRow := hidP ho.row
  clear hb ho HB0
  obtain ⟨n, hn⟩ : ∃ n, n = T.length := ⟨_, rfl⟩
  rw [← hn]
  have HN := hidP hn
  have hnl : n ≤ 1048577 := by have := HC.out.1; omega
  clear hn s0
  by_cases h2 : n = 2
  · subst h2
    obtain ⟨p, o, q0, rfl, hp, hq0, c0⟩ := rowS HRow.out 0 (by rw [← HN.out]; omega)
    obtain ⟨p', o', q1, e', _, hq1, c1⟩ := rowS HRow.out 1 (by rw [← HN.out]; omega)
    cases e'
    have HTT : Hid (T = [q0, q1]) := hidP (by
      have h2 := HN.out
      match T, h2, hq0, hq1 with
      | [x, y], _, hx, hy => simp at hx hy; rw [hx, hy])
    have l0 : q0.length ≤ 1048576 := by have := HC.out.2 q0 (List.mem_of_getElem? hq0); simp at this; omega
    have l1 : q1.length ≤ 1048576 := by have := HC.out.2 q1 (List.mem_of_getElem? hq1); simp at this; omega
    have c0 : w1.cell? ⟨p, o, none⟩ = some (.string ⟨q0.toArray⟩) := c0
    clear hq0 hq1 HRow
    go_wp2_with fail
    refine (sParse_any q0 _ (by omega)).mono ?_
    rintro e w2 ⟨⟨S, H, L, hT, rfl⟩ | ⟨hT, rfl⟩, hb2⟩
    · have HIT := hidP hT
      clear hT
      have k0 := (hb2.cell (p := ⟨w.heap.size, 0, none⟩) (by show w.heap.size < _; first | omega | (simp; omega))).trans k0
      have k1 := (hb2.cell (p := ⟨w.heap.size, 1, none⟩) (by show w.heap.size < _; first | omega | (simp; omega))).trans k1
      have k2 := (hb2.cell (p := ⟨w.heap.size, 2, none⟩) (by show w.heap.size < _; first | omega | (simp; omega))).trans k2
      have k3 := (hb2.cell (p := ⟨w.heap.size, 3, none⟩) (by show w.heap.size < _; first | omega | (simp; omega))).trans k3
      have kf : ∀ o, w2.frozen? ⟨w.heap.size, o, none⟩ = false := fun o => (hb2.frozen (p := ⟨w.heap.size, o, none⟩) (by show w.heap.size < _; first | omega | (simp; omega))).trans (kf o)
      have c1 := (hb2.cell (p := ⟨p, o + 1, none⟩) hp).trans c1
      have HBw := hidP (HBw.out.trans (hb2.mono HBw.out.size))
      have hS2 : w.heap.size + 1 ≤ w2.heap.size := by have := hb2.size; omega
      have hp2 : p < w2.heap.size := by have := hb2.size; omega
      have y2 : w.heap.size < w2.heap.size := by omega
      have y3 : w.heap.size < w2.heap.size + 1 := by omega
      clear hb2 c0
      go_wp2_with fail
      refine (sNumber_any ⟨q1.toArray⟩ 10 128 (Or.inl rfl) _ (by show q1.toArray.size ≤ _; rw [List.size_toArray]; omega)).mono ?_
      rintro e w' ⟨⟨z, hz, rfl⟩ | ⟨hz, z, rfl⟩, hw'⟩
      · obtain ⟨z0, z1⟩ := nmbB_bd 10 128 (by omega) _ z hz
        have HZ : Hid (nmbB 10 128 q1 = some z) := hidP hz
        clear hz
        subst hw'
        go_wp2_with fail
        refine (sPText_any S H L z HIT.out ⟨z0, z1⟩ _).mono ?_
        rintro e w5 ⟨rfl, hb5⟩
        have j0 := hb5.cell (p := ⟨w2.heap.size + 1, 0, none⟩) (by show w2.heap.size + 1 < _; simp)
        have j1 := hb5.cell (p := ⟨w2.heap.size + 1, 1, none⟩) (by show w2.heap.size + 1 < _; simp)
        have j2 := hb5.cell (p := ⟨w2.heap.size + 1, 2, none⟩) (by show w2.heap.size + 1 < _; simp)
        have j3 := hb5.cell (p := ⟨w2.heap.size + 1, 3, none⟩) (by show w2.heap.size + 1 < _; simp)
        simp [go_sem] at j0 j1 j2 j3
        have k0 := (hb5.cell (p := ⟨w.heap.size, 0, none⟩) (by show w.heap.size < _; simp; omega)).trans (by simpa [go_sem, show w.heap.size < w2.heap.size by omega] using k0)
        have k1 := (hb5.cell (p := ⟨w.heap.size, 1, none⟩) (by show w.heap.size < _; simp; omega)).trans (by simpa [go_sem, show w.heap.size < w2.heap.size by omega] using k1)
        have k2 := (hb5.cell (p := ⟨w.heap.size, 2, none⟩) (by show w.heap.size < _; simp; omega)).trans (by simpa [go_sem, show w.heap.size < w2.heap.size by omega] using k2)
        have k3 := (hb5.cell (p := ⟨w.heap.size, 3, none⟩) (by show w.heap.size < _; simp; omega)).trans (by simpa [go_sem, show w.heap.size < w2.heap.size by omega] using k3)
        have kf : ∀ o, w5.frozen? ⟨w.heap.size, o, none⟩ = false := fun o => (hb5.frozen (p := ⟨w.heap.size, o, none⟩) (by show w.heap.size < _; simp; omega)).trans (by simpa [go_sem, show w.heap.size < w2.heap.size by omega] using kf o)
        have HB5 : Hid (Below w.heap.size w w5) := hidP (Below.trans (by repeat (first | with_reducible exact HBw.out | (with_reducible refine Below.setCell ?_ (by first | omega | (simp; done) | (simp; omega)) _) | (with_reducible refine Below.alloc ?_ (by first | omega | (simp; done) | (simp; omega)) _))) (hb5.mono (by simp; omega)))
        have hS5 : w.heap.size + 1 ≤ w5.heap.size := by have := hb5.size; simp at this; omega
        clear hb5 HBw
        have HBw := HB5
        clear HB5
        by_cases he : l = pT S H L z
        · have HIS : Hid (Q l S (BitVec.ofInt 64 H) (BitVec.ofInt 64 L) z ∧ (BitVec.ofInt 64 H).toInt = H ∧ (BitVec.ofInt 64 L).toInt = L) := hidP (by
            rw [HQ.out]
            have eH := ofJ H HIT.out.2.1
            have eL := ofJ L HIT.out.2.2.1
            refine ⟨?_, eH, eL⟩
            unfold pT at he
            cases hp : pokB S (BitVec.ofInt 64 H) (BitVec.ofInt 64 L) z
            · exfalso
              rw [hp, if_neg (by decide)] at he
              have h2 := HSP.out he
              rw [HTT.out] at h2
              cases h2
            · rw [hp, if_pos rfl] at he
              exact ⟨hp, by rw [eH, eL]; exact he⟩)
          generalize pT S H L z = PT at *
          subst he
          go_wp2_with fail
          refine bodyPost_ret (v := .tuple #[.agg #[.bool S, .int .i64 H, .int .i64 L, .int .i64 z], .bool true]) (by simp [results, Tryd.results18, go_sem, k0, k1, k2, k3]) rfl ⟨Or.inl ⟨S, _, _, z, HIS.out.1, by rw [HIS.out.2.1, HIS.out.2.2]⟩, ?_⟩
          repeat (first | with_reducible exact HBw.out | (with_reducible refine Below.setCell ?_ (by first | omega | (simp; done) | (simp; omega)) _) | (with_reducible refine Below.alloc ?_ (by first | omega | (simp; done) | (simp; omega)) _))
        · have HNO : Hid (¬ ∃ S H L b, Q l S H L b) := hidP (by
            rw [HQ.out]
            refine HNP.out q0 q1 S H L z HTT.out HIT.out HZ.out ?_
            rintro ⟨x, y⟩
            apply he
            unfold pT
            rw [if_pos x]
            exact y)
          have hne := beq_no he
          generalize pT S H L z = PT at *
          go_wp2_with fail
          refine bodyPost_ret (v := .tuple #[.agg #[.bool false, .int .i64 0, .int .i64 0, .int .i64 0], .bool false]) (by simp [results, Tryd.results18, go_sem, k0, k1, k2, k3]) rfl ⟨Or.inr ⟨HNO.out, rfl⟩, ?_⟩
          repeat (first | with_reducible exact HBw.out | (with_reducible refine Below.setCell ?_ (by first | omega | (simp; done) | (simp; omega)) _) | (with_reducible refine Below.alloc ?_ (by first | omega | (simp; done) | (simp; omega)) _))
      · have HNO : Hid (¬ ∃ S H L b, Q l S H L b) := hidP (by
          rw [HQ.out]
          exact HNN.out q0 q1 HTT.out hz)
        clear hz
        subst hw'
        go_wp2_with fail
        refine bodyPost_ret (v := .tuple #[.agg #[.bool false, .int .i64 0, .int .i64 0, .int .i64 0], .bool false]) (by simp [results, Tryd.results18, go_sem, k0, k1, k2, k3, y2, y3]) rfl ⟨Or.inr ⟨HNO.out, rfl⟩, ?_⟩
        repeat (first | with_reducible exact HBw.out | (with_reducible refine Below.setCell ?_ (by first | omega | (simp; done) | (simp; omega)) _) | (with_reducible refine Below.alloc ?_ (by first | omega | (simp; done) | (simp; omega)) _))
    · have HNO : Hid (¬ ∃ S H L b, Q l S H L b) := hidP (by
        rw [HQ.out]
        exact HNT.out q0 q1 HTT.out hT)
      have k0 := (hb2.cell (p := ⟨w.heap.size, 0, none⟩) (by show w.heap.size < _; first | omega | (simp; omega))).trans k0
      have k1 := (hb2.cell (p := ⟨w.heap.size, 1, none⟩) (by show w.heap.size < _; first | omega | (simp; omega))).trans k1
      have k2 := (hb2.cell (p := ⟨w.heap.size, 2, none⟩) (by show w.heap.size < _; first | omega | (simp; omega))).trans k2
      have k3 := (hb2.cell (p := ⟨w.heap.size, 3, none⟩) (by show w.heap.size < _; first | omega | (simp; omega))).trans k3
      have kf : ∀ o, w2.frozen? ⟨w.heap.size, o, none⟩ = false := fun o => (hb2.frozen (p := ⟨w.heap.size, o, none⟩) (by show w.heap.size < _; first | omega | (simp; omega))).trans (kf o)
      have c1 := (hb2.cell (p := ⟨p, o + 1, none⟩) hp).trans c1
      have HBw := hidP (HBw.out.trans (hb2.mono HBw.out.size))
      have hS2 : w.heap.size + 1 ≤ w2.heap.size := by have := hb2.size; omega
      have hp2 : p < w2.heap.size := by have := hb2.size; omega
      have y2 : w.heap.size < w2.heap.size := by omega
      have y3 : w.heap.size < w2.heap.size + 1 := by omega
      clear hb2 c0 hT
      go_wp2_with fail
      refine (sNumber_any ⟨q1.toArray⟩ 10 128 (Or.inl rfl) _ (by show q1.toArray.size ≤ _; rw [List.size_toArray]; omega)).mono ?_
      rintro e w' ⟨⟨z, hz, rfl⟩ | ⟨hz, z, rfl⟩, hw'⟩
      all_goals
        clear hz
        subst hw'
        go_wp2_with fail
        refine bodyPost_ret (v := .tuple #[.agg #[.bool false, .int .i64 0, .int .i64 0, .int .i64 0], .bool false]) (by simp [results, Tryd.results18, go_sem, k0, k1, k2, k3, y2, y3]) rfl ⟨Or.inr ⟨HNO.out, rfl⟩, ?_⟩
        repeat (first | with_reducible exact HBw.out | (with_reducible refine Below.setCell ?_ (by first | omega | (simp; done) | (simp; omega)) _) | (with_reducible refine Below.alloc ?_ (by first | omega | (simp; done) | (simp; omega)) _))
  · have HNO : Hid (¬ ∃ S H L b, Q l S H L b) := hidP (by
      rw [HQ.out]
      exact HN2.out (by rw [← HN.out]; exact h2))
    have h2' : ((n : Int) == 2) = false := by simp; omega
    go_wp2_with fail
    refine bodyPost_ret (v := .tuple #[.agg #[.bool false, .int .i64 0, .int .i64 0, .int .i64 0], .bool false]) (by simp [results, Tryd.results18, go_sem, k0, k1, k2, k3]) rfl ⟨Or.inr ⟨HNO.out, rfl⟩, ?_⟩
    repeat (first | with_reducible exact HBw.out | (with_reducible refine Below.setCell ?_ (by first | omega | (simp; done) | (simp; omega)) _) | (with_reducible refine Below.alloc ?_ (by first | omega | (simp; done) | (simp; omega)) _))

end Go.Proofs.YtofnnpjadehgmaaDoor
