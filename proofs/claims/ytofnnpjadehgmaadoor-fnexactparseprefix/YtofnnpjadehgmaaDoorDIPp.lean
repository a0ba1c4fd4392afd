/-
  The program's ParsePrefix at every text, given what strings.Cut and strconv.Atoi answer there: the right prefix whose text it is, and true; or the zero one and false. Nothing old in memory turns.
-/
import Derived.Test.YtofnnpjadehgmaaDoorDPp
namespace Go.Proofs.YtofnnpjadehgmaaDoor
open Go.RowKit

theorem iAddr_tA (S : Bool) (H L : Int) (ok : okB S H L = true) (w : World) (ht : Tabs w) : Calls Tryd.prog 11 #[.agg #[.bool S, .int .i64 H, .int .i64 L]] w fun e w' => e = .returned (.string ⟨(tA S H L).toArray⟩) ∧ Below w.heap.size w w' := by
  cases S
  · obtain ⟨e, h0, h1⟩ := ok_four ok
    exact iText_four false H L H L (nrm_ok ok) h0 h1 w ht
  · exact iText_six true H L H L (nrm_ok ok) w ht
theorem iPText_any {q0 : List UInt8} (S : Bool) (H L b : Int) (hT : IsT q0 S H L) (w : World) (ht : Tabs w) : Calls Tryd.prog 45 #[.agg #[.bool S, .int .i64 H, .int .i64 L, .int .i64 b]] w fun e w' => e = .returned (.string ⟨(pT S H L b).toArray⟩) ∧ Below w.heap.size w w' := by
  have eH := ofJ H hT.2.1
  have eL := ofJ L hT.2.2.1
  unfold pT
  cases hp : pokB S (BitVec.ofInt 64 H) (BitVec.ofInt 64 L) b
  · have := iPText_no S (BitVec.ofInt 64 H) (BitVec.ofInt 64 L) b hp w
    rw [eH, eL] at this
    exact this
  · have hb := (pokB_parts hp).2.1
    have hw : (wd S : Int) ≤ 128 := by cases S <;> decide
    have := iPText_yes S (BitVec.ofInt 64 H) (BitVec.ofInt 64 L) b (tA S H L) _ hb.1 (by omega) (tA_len _ _ _) (decs_len b) rfl (by rw [eH, eL]; exact fun w ht => iAddr_tA S H L hT.1 w ht) hp w ht
    rw [eH, eL] at this
    exact this

set_option maxRecDepth 10000 in
set_option maxHeartbeats 4000000 in
theorem iPrefix_of (l qa qb : List UInt8) (f : Bool) (at' : Option Int) (Sh : World → Prop) (hsh : ∀ x y, Sh x → Below x.heap.size x y → Sh y)
    (hcut : ∀ x, Sh x → Calls Tryd.prog 43 #[.string ⟨l.toArray⟩, .string ⟨#[47]⟩] x fun e x' => e = .returned (.tuple #[.string ⟨qa.toArray⟩, .string ⟨qb.toArray⟩, .bool f]) ∧ Below x.heap.size x x')
    (hatoi : ∀ x, Sh x → Calls Tryd.prog 44 #[.string ⟨qb.toArray⟩] x fun e x' => ((∃ v, at' = some v ∧ e = .returned (.tuple #[.int .i64 v, .nilIface])) ∨ (at' = none ∧ ∃ v t p, e = .returned (.tuple #[.int .i64 v, .iface t p]))) ∧ Below x.heap.size x x')
    (hl : ∀ S H L b, IsP l S H L b → qa = tA S H.toInt L.toInt ∧ at' = some b) (hne : l ≠ [] ∨ at' = none) (w : World) (ht : Tabs w) (hs : Sh w) :
    Calls Tryd.prog 19 #[.string ⟨l.toArray⟩] w fun e w' => ((∃ S H L b, IsP l S H L b ∧ e = .returned (.tuple #[.agg #[.bool S, .int .i64 H.toInt, .int .i64 L.toInt, .int .i64 b], .bool true])) ∨ ((¬ ∃ S H L b, IsP l S H L b) ∧ e = .returned (.tuple #[.agg #[.bool false, .int .i64 0, .int .i64 0, .int .i64 0], .bool false]))) ∧ Below w.heap.size w w' := by
  have HCt := hidP hcut
  have HAt := hidP hatoi
  have HSh := hidP (fun y (h : Below w.heap.size w y) => hsh w y hs h)
  have HTb := hidP (fun y (h : Below w.heap.size w y) => ht.below h)
  have HL := hidP hl
  have HNE := hidP hne
  clear hcut hatoi hl hne hsh hs ht
  obtain ⟨Q, hQ⟩ : ∃ Q : List UInt8 → Bool → BitVec 64 → BitVec 64 → Int → Prop, Q = IsP := ⟨_, rfl⟩
  rw [← hQ]
  have HQ := hidP hQ
  clear hQ
  go_enter Tryd.func19, Tryd.ntmps19
  go_wp2_with fail
  have k0 : (w.alloc (.cells #[.bool false, .int .i64 0, .int .i64 0, .int .i64 0] 39)).cell? ⟨w.heap.size, 0, none⟩ = some (.bool false) := by simp [go_sem]
  have k1 : (w.alloc (.cells #[.bool false, .int .i64 0, .int .i64 0, .int .i64 0] 39)).cell? ⟨w.heap.size, 1, none⟩ = some (.int .i64 0) := by simp [go_sem]
  have k2 : (w.alloc (.cells #[.bool false, .int .i64 0, .int .i64 0, .int .i64 0] 39)).cell? ⟨w.heap.size, 2, none⟩ = some (.int .i64 0) := by simp [go_sem]
  have k3 : (w.alloc (.cells #[.bool false, .int .i64 0, .int .i64 0, .int .i64 0] 39)).cell? ⟨w.heap.size, 3, none⟩ = some (.int .i64 0) := by simp [go_sem]
  have kf : ∀ o, (w.alloc (.cells #[.bool false, .int .i64 0, .int .i64 0, .int .i64 0] 39)).frozen? ⟨w.heap.size, o, none⟩ = false := fun o => by simp [go_sem]
  have s0 : (w.alloc (.cells #[.bool false, .int .i64 0, .int .i64 0, .int .i64 0] 39)).heap.size = w.heap.size + 1 := by simp
  have HB0 : Hid (Below w.heap.size w (w.alloc (.cells #[.bool false, .int .i64 0, .int .i64 0, .int .i64 0] 39))) := hidP ((Below.refl _ w).alloc (Nat.le_refl _) _)
  generalize (w.alloc (.cells #[.bool false, .int .i64 0, .int .i64 0, .int .i64 0] 39)) = W0 at *
  refine (HCt.out _ (HSh.out _ HB0.out)).mono ?_
  rintro e w1 ⟨rfl, hb⟩
  have k0 := (hb.cell (p := ⟨w.heap.size, 0, none⟩) (by show w.heap.size < _; first | omega | (simp; omega))).trans k0
  have k1 := (hb.cell (p := ⟨w.heap.size, 1, none⟩) (by show w.heap.size < _; first | omega | (simp; omega))).trans k1
  have k2 := (hb.cell (p := ⟨w.heap.size, 2, none⟩) (by show w.heap.size < _; first | omega | (simp; omega))).trans k2
  have k3 := (hb.cell (p := ⟨w.heap.size, 3, none⟩) (by show w.heap.size < _; first | omega | (simp; omega))).trans k3
  have kf : ∀ o, w1.frozen? ⟨w.heap.size, o, none⟩ = false := fun o => (hb.frozen (p := ⟨w.heap.size, o, none⟩) (by show w.heap.size < _; first | omega | (simp; omega))).trans (kf o)
  have HBw := hidP (HB0.out.trans (hb.mono HB0.out.size))
  have hS1 : w.heap.size + 1 ≤ w1.heap.size := by have := hb.size; omega
  clear hb HB0 s0
  go_wp2_with fail
  refine (iParse_any qa _ (HTb.out _ HBw.out)).mono ?_
  rintro e w2 ⟨⟨S, H, L, hT, rfl⟩ | ⟨hT, rfl⟩, hb2⟩
  · have HIT := hidP hT
    clear hT
    have k0 := (hb2.cell (p := ⟨w.heap.size, 0, none⟩) (by show w.heap.size < _; first | omega | (simp; omega))).trans k0
    have k1 := (hb2.cell (p := ⟨w.heap.size, 1, none⟩) (by show w.heap.size < _; first | omega | (simp; omega))).trans k1
    have k2 := (hb2.cell (p := ⟨w.heap.size, 2, none⟩) (by show w.heap.size < _; first | omega | (simp; omega))).trans k2
    have k3 := (hb2.cell (p := ⟨w.heap.size, 3, none⟩) (by show w.heap.size < _; first | omega | (simp; omega))).trans k3
    have kf : ∀ o, w2.frozen? ⟨w.heap.size, o, none⟩ = false := fun o => (hb2.frozen (p := ⟨w.heap.size, o, none⟩) (by show w.heap.size < _; first | omega | (simp; omega))).trans (kf o)
    have HBw := hidP (HBw.out.trans (hb2.mono HBw.out.size))
    have hS2 : w.heap.size + 1 ≤ w2.heap.size := by have := hb2.size; omega
    have y2 : w.heap.size < w2.heap.size := by omega
    clear hb2
    go_wp2_with fail
    refine (HAt.out _ (HSh.out _ (HBw.out.alloc (by omega) _))).mono ?_
    rintro e w3 ⟨⟨v, hv, rfl⟩ | ⟨hv, v, et, ep, rfl⟩, hb3⟩
    all_goals
      have k0 := (hb3.cell (p := ⟨w.heap.size, 0, none⟩) (by show w.heap.size < _; simp; omega)).trans (by simpa [go_sem, y2] using k0)
      have k1 := (hb3.cell (p := ⟨w.heap.size, 1, none⟩) (by show w.heap.size < _; simp; omega)).trans (by simpa [go_sem, y2] using k1)
      have k2 := (hb3.cell (p := ⟨w.heap.size, 2, none⟩) (by show w.heap.size < _; simp; omega)).trans (by simpa [go_sem, y2] using k2)
      have k3 := (hb3.cell (p := ⟨w.heap.size, 3, none⟩) (by show w.heap.size < _; simp; omega)).trans (by simpa [go_sem, y2] using k3)
      have kf : ∀ o, w3.frozen? ⟨w.heap.size, o, none⟩ = false := fun o => (hb3.frozen (p := ⟨w.heap.size, o, none⟩) (by show w.heap.size < _; simp; omega)).trans (by simpa [go_sem, y2] using kf o)
      have a0 := hb3.cell (p := ⟨w2.heap.size, 0, none⟩) (by show w2.heap.size < _; simp)
      have a1 := hb3.cell (p := ⟨w2.heap.size, 1, none⟩) (by show w2.heap.size < _; simp)
      have a2 := hb3.cell (p := ⟨w2.heap.size, 2, none⟩) (by show w2.heap.size < _; simp)
      simp [go_sem] at a0 a1 a2
      have hS3 : w2.heap.size + 1 ≤ w3.heap.size := by have := hb3.size; simp at this; omega
      have HBw := hidP ((HBw.out.alloc (by omega) _).trans (hb3.mono (by simp; omega)))
      have y3 : w.heap.size < w3.heap.size := by omega
      have y4 : w2.heap.size < w3.heap.size := by omega
      clear hb3
    · have HV := hidP hv
      clear hv
      go_wp2_with fail
      refine (iPText_any S H L v HIT.out _ (HTb.out _ (HBw.out.alloc (by omega) _))).mono ?_
      rintro e w5 ⟨rfl, hb5⟩
      have j0 := hb5.cell (p := ⟨w3.heap.size, 0, none⟩) (by show w3.heap.size < _; simp)
      have j1 := hb5.cell (p := ⟨w3.heap.size, 1, none⟩) (by show w3.heap.size < _; simp)
      have j2 := hb5.cell (p := ⟨w3.heap.size, 2, none⟩) (by show w3.heap.size < _; simp)
      have j3 := hb5.cell (p := ⟨w3.heap.size, 3, none⟩) (by show w3.heap.size < _; simp)
      simp [go_sem] at j0 j1 j2 j3
      have k0 := (hb5.cell (p := ⟨w.heap.size, 0, none⟩) (by show w.heap.size < _; simp; omega)).trans (by simpa [go_sem, y3] using k0)
      have k1 := (hb5.cell (p := ⟨w.heap.size, 1, none⟩) (by show w.heap.size < _; simp; omega)).trans (by simpa [go_sem, y3] using k1)
      have k2 := (hb5.cell (p := ⟨w.heap.size, 2, none⟩) (by show w.heap.size < _; simp; omega)).trans (by simpa [go_sem, y3] using k2)
      have k3 := (hb5.cell (p := ⟨w.heap.size, 3, none⟩) (by show w.heap.size < _; simp; omega)).trans (by simpa [go_sem, y3] using k3)
      have kf : ∀ o, w5.frozen? ⟨w.heap.size, o, none⟩ = false := fun o => (hb5.frozen (p := ⟨w.heap.size, o, none⟩) (by show w.heap.size < _; simp; omega)).trans (by simpa [go_sem, y3] using kf o)
      have HB5 : Hid (Below w.heap.size w w5) := hidP ((HBw.out.alloc (by omega) _).trans (hb5.mono (by simp; omega)))
      have hS5 : w.heap.size + 1 ≤ w5.heap.size := by have := hb5.size; simp at this; omega
      clear hb5 HBw
      have HBw := HB5
      clear HB5
      by_cases he : l = pT S H L v
      · have HIS : Hid (Q l S (BitVec.ofInt 64 H) (BitVec.ofInt 64 L) v ∧ (BitVec.ofInt 64 H).toInt = H ∧ (BitVec.ofInt 64 L).toInt = L) := hidP (by
          rw [HQ.out]
          have eH := ofJ H HIT.out.2.1
          have eL := ofJ L HIT.out.2.2.1
          refine ⟨?_, eH, eL⟩
          unfold pT at he
          cases hp : pokB S (BitVec.ofInt 64 H) (BitVec.ofInt 64 L) v
          · exfalso
            rw [hp, if_neg (by decide)] at he
            rcases HNE.out with h | h
            · exact h he
            · rw [HV.out] at h; cases h
          · rw [hp, if_pos rfl] at he
            exact ⟨hp, by rw [eH, eL]; exact he⟩)
        generalize pT S H L v = PT at *
        subst he
        go_wp2_with fail
        refine bodyPost_ret (v := .tuple #[.agg #[.bool S, .int .i64 H, .int .i64 L, .int .i64 v], .bool true]) (by simp [results, Tryd.results19, go_sem, k0, k1, k2, k3]) rfl ⟨Or.inl ⟨S, _, _, v, HIS.out.1, by rw [HIS.out.2.1, HIS.out.2.2]⟩, ?_⟩
        repeat (first | with_reducible exact HBw.out | (with_reducible refine Below.setCell ?_ (by first | omega | (simp; done) | (simp; omega)) _) | (with_reducible refine Below.alloc ?_ (by first | omega | (simp; done) | (simp; omega)) _))
      · have HNO : Hid (¬ ∃ S H L b, Q l S H L b) := hidP (by
          rw [HQ.out]
          rintro ⟨S', H', L', b', h⟩
          obtain ⟨e1, e2⟩ := HL.out _ _ _ _ h
          rw [HV.out] at e2
          cases e2
          have hT := HIT.out
          rw [e1] at hT
          obtain ⟨rfl, rfl, rfl⟩ := isT_one hT (isP_T h)
          apply he
          unfold pT
          rw [BitVec.ofInt_toInt, BitVec.ofInt_toInt, if_pos h.1]
          exact h.2)
        have hne := beq_no he
        generalize pT S H L v = PT at *
        go_wp2_with fail
        refine bodyPost_ret (v := .tuple #[.agg #[.bool false, .int .i64 0, .int .i64 0, .int .i64 0], .bool false]) (by simp [results, Tryd.results19, go_sem, k0, k1, k2, k3]) rfl ⟨Or.inr ⟨HNO.out, rfl⟩, ?_⟩
        repeat (first | with_reducible exact HBw.out | (with_reducible refine Below.setCell ?_ (by first | omega | (simp; done) | (simp; omega)) _) | (with_reducible refine Below.alloc ?_ (by first | omega | (simp; done) | (simp; omega)) _))
    · have HNO : Hid (¬ ∃ S H L b, Q l S H L b) := hidP (by
        rw [HQ.out]
        rintro ⟨S', H', L', b', h⟩
        obtain ⟨_, e2⟩ := HL.out _ _ _ _ h
        rw [hv] at e2
        cases e2)
      clear hv
      go_wp2_with fail
      refine bodyPost_ret (v := .tuple #[.agg #[.bool false, .int .i64 0, .int .i64 0, .int .i64 0], .bool false]) (by simp [results, Tryd.results19, go_sem, k0, k1, k2, k3, y3]) rfl ⟨Or.inr ⟨HNO.out, rfl⟩, ?_⟩
      repeat (first | with_reducible exact HBw.out | (with_reducible refine Below.setCell ?_ (by first | omega | (simp; done) | (simp; omega)) _) | (with_reducible refine Below.alloc ?_ (by first | omega | (simp; done) | (simp; omega)) _))
  · have HNO : Hid (¬ ∃ S H L b, Q l S H L b) := hidP (by
      rw [HQ.out]
      rintro ⟨S', H', L', b', h⟩
      obtain ⟨e1, _⟩ := HL.out _ _ _ _ h
      exact hT ⟨_, _, _, by rw [e1]; exact isP_T h⟩)
    have k0 := (hb2.cell (p := ⟨w.heap.size, 0, none⟩) (by show w.heap.size < _; first | omega | (simp; omega))).trans k0
    have k1 := (hb2.cell (p := ⟨w.heap.size, 1, none⟩) (by show w.heap.size < _; first | omega | (simp; omega))).trans k1
    have k2 := (hb2.cell (p := ⟨w.heap.size, 2, none⟩) (by show w.heap.size < _; first | omega | (simp; omega))).trans k2
    have k3 := (hb2.cell (p := ⟨w.heap.size, 3, none⟩) (by show w.heap.size < _; first | omega | (simp; omega))).trans k3
    have kf : ∀ o, w2.frozen? ⟨w.heap.size, o, none⟩ = false := fun o => (hb2.frozen (p := ⟨w.heap.size, o, none⟩) (by show w.heap.size < _; first | omega | (simp; omega))).trans (kf o)
    have HBw := hidP (HBw.out.trans (hb2.mono HBw.out.size))
    have hS2 : w.heap.size + 1 ≤ w2.heap.size := by have := hb2.size; omega
    have y2 : w.heap.size < w2.heap.size := by omega
    clear hb2 hT
    go_wp2_with fail
    refine (HAt.out _ (HSh.out _ (HBw.out.alloc (by omega) _))).mono ?_
    rintro e w3 ⟨⟨v, hv, rfl⟩ | ⟨hv, v, et, ep, rfl⟩, hb3⟩
    all_goals
      have k0 := (hb3.cell (p := ⟨w.heap.size, 0, none⟩) (by show w.heap.size < _; simp; omega)).trans (by simpa [go_sem, y2] using k0)
      have k1 := (hb3.cell (p := ⟨w.heap.size, 1, none⟩) (by show w.heap.size < _; simp; omega)).trans (by simpa [go_sem, y2] using k1)
      have k2 := (hb3.cell (p := ⟨w.heap.size, 2, none⟩) (by show w.heap.size < _; simp; omega)).trans (by simpa [go_sem, y2] using k2)
      have k3 := (hb3.cell (p := ⟨w.heap.size, 3, none⟩) (by show w.heap.size < _; simp; omega)).trans (by simpa [go_sem, y2] using k3)
      have kf : ∀ o, w3.frozen? ⟨w.heap.size, o, none⟩ = false := fun o => (hb3.frozen (p := ⟨w.heap.size, o, none⟩) (by show w.heap.size < _; simp; omega)).trans (by simpa [go_sem, y2] using kf o)
      have a0 := hb3.cell (p := ⟨w2.heap.size, 0, none⟩) (by show w2.heap.size < _; simp)
      have a1 := hb3.cell (p := ⟨w2.heap.size, 1, none⟩) (by show w2.heap.size < _; simp)
      have a2 := hb3.cell (p := ⟨w2.heap.size, 2, none⟩) (by show w2.heap.size < _; simp)
      simp [go_sem] at a0 a1 a2
      have hS3 : w2.heap.size + 1 ≤ w3.heap.size := by have := hb3.size; simp at this; omega
      have HBw := hidP ((HBw.out.alloc (by omega) _).trans (hb3.mono (by simp; omega)))
      have y3 : w.heap.size < w3.heap.size := by omega
      clear hb3 hv
      go_wp2_with fail
      refine bodyPost_ret (v := .tuple #[.agg #[.bool false, .int .i64 0, .int .i64 0, .int .i64 0], .bool false]) (by simp [results, Tryd.results19, go_sem, k0, k1, k2, k3, y3]) rfl ⟨Or.inr ⟨HNO.out, rfl⟩, ?_⟩
      repeat (first | with_reducible exact HBw.out | (with_reducible refine Below.setCell ?_ (by first | omega | (simp; done) | (simp; omega)) _) | (with_reducible refine Below.alloc ?_ (by first | omega | (simp; done) | (simp; omega)) _))

end Go.Proofs.YtofnnpjadehgmaaDoor
