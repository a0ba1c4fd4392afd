/-
  What prefixes_card needs, part 3.
-/
import Derived.Test.YtadhapggcifldaaGreatDoorZP2
import Derived.Lib.AtoiAll
import Derived.Lib.CutLaws
import Derived.Test.YtadhapggcifldaaGreatDoorShelfP
import Derived.Lib.SmallJoins
import Derived.Deep.RegionHeld3
import Derived.RegionTactic
import Derived.Deep.RegionWith
import Derived.Deep.DeepCutAuto
import Derived.Carry
import Derived.Deep.Slices
import Derived.ProofKit
import Derived.Test.YtadhapggcifldaaGreatDoorCards
import Derived.Test.YtadhapggcifldaaGreatDoorTie
import Derived.OpenShut
import Derived.Deep.DeepHandedRow
import Derived.Lib.LaidTab
import Derived.LaidSub
import Derived.ChangeMaps5
import Derived.ChangeSame
import Derived.ChangeVars
import Derived.JoinedOf
import Derived.LaidLaws
import Derived.LaidHandle
import Derived.Stop.Joined
namespace Go.Proofs.YtadhapggcifldaaGreatDoor
open Go.RowKit

/-- Is this the text of that right prefix? -/
def IsP (l : List UInt8) (S : Bool) (H L : BitVec 64) (b : Int) : Prop := pokB S H L b = true ∧ l = tA S H.toInt L.toInt ++ [47] ++ decs b
theorem bdB (x : BitVec 64) : -9223372036854775808 ≤ x.toInt ∧ x.toInt ≤ 9223372036854775807 := by
  have h1 := BitVec.toInt_lt (x := x); have h2 := BitVec.le_toInt (x := x); simp at h1 h2; omega
theorem ofJ (x : Int) (h : -9223372036854775808 ≤ x ∧ x ≤ 9223372036854775807) : (BitVec.ofInt 64 x).toInt = x := by
  rw [BitVec.toInt_ofInt]; simp only [Int.bmod]; omega
theorem txt4_no47 (L : Int) : (47 : UInt8) ∉ txt4 L := by
  have no : ∀ z : Int, 0 ≤ z → z < 256 → (47 : UInt8) ∉ decs z := fun z a b => decs_no 47 (by simp) z a b
  unfold txt4
  simp only [List.nil_append, List.mem_append, not_or]
  exact ⟨⟨⟨⟨⟨⟨no _ (by omega) (by omega), by decide⟩, no _ (by omega) (by omega)⟩, by decide⟩, no _ (by omega) (by omega)⟩, by decide⟩, no _ (by omega) (by omega)⟩
theorem tA_no47 (S : Bool) (H L : Int) : (47 : UInt8) ∉ tA S H L := by
  unfold tA
  split
  · exact txt8_no 47 (by simp) _ (grp_bd H L)
  · exact txt4_no47 L
theorem isP_bd {l : List UInt8} {S : Bool} {H L : BitVec 64} {b : Int} (h : IsP l S H L b) : 0 ≤ b ∧ b ≤ 128 := by
  have h1 := (pokB_parts h.1).2.1
  have hw : (wd S : Int) ≤ 128 := by cases S <;> decide
  omega
theorem isP_T {l : List UInt8} {S : Bool} {H L : BitVec 64} {b : Int} (h : IsP l S H L b) : IsT (tA S H.toInt L.toInt) S H.toInt L.toInt := ⟨(pokB_parts h.1).1, bdB H, bdB L, rfl⟩
/-- The text that PrefixText gives. -/
def pT (S : Bool) (H L : Int) (b : Int) : List UInt8 := if pokB S (BitVec.ofInt 64 H) (BitVec.ofInt 64 L) b = true then tA S H L ++ [47] ++ decs b else []
theorem tA_len (S : Bool) (H L : Int) : (tA S H L).length ≤ 100 := by
  unfold tA; split
  · exact txt8_len _
  · exact txt4_len _

end Go.Proofs.YtadhapggcifldaaGreatDoor
namespace Go.Proofs.YtadhapggcifldaaGreatDoor
open Go.RowKit

theorem iAddr_tA (S : Bool) (H L : Int) (ok : okB S H L = true) (w : World) (ht : Tabs w) : Calls Tryz.prog 22 #[.agg #[.bool S, .int .i64 H, .int .i64 L]] w fun e w' => e = .returned (.string ⟨(tA S H L).toArray⟩) ∧ Below w.heap.size w w' := by
  cases S
  · obtain ⟨e, h0, h1⟩ := ok_four ok
    exact iText_four false H L H L (nrm_ok ok) h0 h1 w ht
  · exact iText_six true H L H L (nrm_ok ok) w ht
theorem iPText_any {q0 : List UInt8} (S : Bool) (H L b : Int) (hT : IsT q0 S H L) (w : World) (ht : Tabs w) : Calls Tryz.prog 7 #[.agg #[.bool S, .int .i64 H, .int .i64 L, .int .i64 b]] w fun e w' => e = .returned (.string ⟨(pT S H L b).toArray⟩) ∧ Below w.heap.size w w' := by
  have eH := ofJ H hT.2.1
  have eL := ofJ L hT.2.2.1
  unfold pT
  cases hp : pokB S (BitVec.ofInt 64 H) (BitVec.ofInt 64 L) b
  · have := iPText_no S (BitVec.ofInt 64 H) (BitVec.ofInt 64 L) b hp w
    rw [eH, eL] at this
    exact this
  · have hb := (pokB_parts hp).2.1
    have hw : (wd S : Int) ≤ 128 := by cases S <;> decide
    have := iPText_yes S (BitVec.ofInt 64 H) (BitVec.ofInt 64 L) b (tA S H L) _ hb.1 (by omega) (tA_len _ _ _) (decs_len b) rfl (by rw [eH, eL]; exact fun w ht => iAddr_tA S H L hT.1 w ht) hp w ht
    rw [eH, eL] at this
    exact this

set_option maxRecDepth 10000 in
set_option maxHeartbeats 4000000 in
theorem iPrefix_of (l qa qb : List UInt8) (f : Bool) (at' : Option Int) (Sh : World → Prop) (hsh : ∀ x y, Sh x → Below x.heap.size x y → Sh y)
    (hcut : ∀ x, Sh x → Calls Tryz.prog 25 #[.string ⟨l.toArray⟩, .string ⟨#[47]⟩] x fun e x' => e = .returned (.tuple #[.string ⟨qa.toArray⟩, .string ⟨qb.toArray⟩, .bool f]) ∧ Below x.heap.size x x')
    (hatoi : ∀ x, Sh x → Calls Tryz.prog 27 #[.string ⟨qb.toArray⟩] x fun e x' => ((∃ v, at' = some v ∧ e = .returned (.tuple #[.int .i64 v, .nilIface])) ∨ (at' = none ∧ ∃ v t p, e = .returned (.tuple #[.int .i64 v, .iface t p]))) ∧ Below x.heap.size x x')
    (hl : ∀ S H L b, IsP l S H L b → qa = tA S H.toInt L.toInt ∧ at' = some b) (hne : l ≠ [] ∨ at' = none) (w : World) (ht : Tabs w) (hs : Sh w) :
    Calls Tryz.prog 9 #[.string ⟨l.toArray⟩] w fun e w' => ((∃ S H L b, IsP l S H L b ∧ e = .returned (.tuple #[.agg #[.bool S, .int .i64 H.toInt, .int .i64 L.toInt, .int .i64 b], .bool true])) ∨ ((¬ ∃ S H L b, IsP l S H L b) ∧ e = .returned (.tuple #[.agg #[.bool false, .int .i64 0, .int .i64 0, .int .i64 0], .bool false]))) ∧ Below w.heap.size w w' := by
  have HCt := hidP hcut
  have HAt := hidP hatoi
  have HSh := hidP (fun y (h : Below w.heap.size w y) => hsh w y hs h)
  have HTb := hidP (fun y (h : Below w.heap.size w y) => ht.below h)
  have HL := hidP hl
  have HNE := hidP hne
  clear hcut hatoi hl hne hsh hs ht
  obtain ⟨Q, hQ⟩ : ∃ Q : List UInt8 → Bool → BitVec 64 → BitVec 64 → Int → Prop, Q = IsP := ⟨_, rfl⟩
  rw [← hQ]
  have HQ := hidP hQ
  clear hQ
  go_enter Tryz.func9, Tryz.ntmps9
  go_wp2_with fail
  have k0 : (w.alloc (.cells #[.bool false, .int .i64 0, .int .i64 0, .int .i64 0] 27)).cell? ⟨w.heap.size, 0, none⟩ = some (.bool false) := by simp [go_sem]
  have k1 : (w.alloc (.cells #[.bool false, .int .i64 0, .int .i64 0, .int .i64 0] 27)).cell? ⟨w.heap.size, 1, none⟩ = some (.int .i64 0) := by simp [go_sem]
  have k2 : (w.alloc (.cells #[.bool false, .int .i64 0, .int .i64 0, .int .i64 0] 27)).cell? ⟨w.heap.size, 2, none⟩ = some (.int .i64 0) := by simp [go_sem]
  have k3 : (w.alloc (.cells #[.bool false, .int .i64 0, .int .i64 0, .int .i64 0] 27)).cell? ⟨w.heap.size, 3, none⟩ = some (.int .i64 0) := by simp [go_sem]
  have kf : ∀ o, (w.alloc (.cells #[.bool false, .int .i64 0, .int .i64 0, .int .i64 0] 27)).frozen? ⟨w.heap.size, o, none⟩ = false := fun o => by simp [go_sem]
  have s0 : (w.alloc (.cells #[.bool false, .int .i64 0, .int .i64 0, .int .i64 0] 27)).heap.size = w.heap.size + 1 := by simp
  have HB0 : Hid (Below w.heap.size w (w.alloc (.cells #[.bool false, .int .i64 0, .int .i64 0, .int .i64 0] 27))) := hidP ((Below.refl _ w).alloc (Nat.le_refl _) _)
  generalize (w.alloc (.cells #[.bool false, .int .i64 0, .int .i64 0, .int .i64 0] 27)) = W0 at *
  refine (HCt.out _ (HSh.out _ HB0.out)).mono ?_
  rintro e w1 ⟨rfl, hb⟩
  have k0 := (hb.cell (p := ⟨w.heap.size, 0, none⟩) (by show w.heap.size < _; first | omega | (simp; omega))).trans k0
  have k1 := (hb.cell (p := ⟨w.heap.size, 1, none⟩) (by show w.heap.size < _; first | omega | (simp; omega))).trans k1
  have k2 := (hb.cell (p := ⟨w.heap.size, 2, none⟩) (by show w.heap.size < _; first | omega | (simp; omega))).trans k2
  have k3 := (hb.cell (p := ⟨w.heap.size, 3, none⟩) (by show w.heap.size < _; first | omega | (simp; omega))).trans k3
  have kf : ∀ o, w1.frozen? ⟨w.heap.size, o, none⟩ = false := fun o => (hb.frozen (p := ⟨w.heap.size, o, none⟩) (by show w.heap.size < _; first | omega | (simp; omega))).trans (kf o)
  have HBw := hidP (HB0.out.trans (hb.mono HB0.out.size))
  have hS1 : w.heap.size + 1 ≤ w1.heap.size := by have := hb.size; omega
  clear hb HB0 s0
  go_wp2_with fail
  refine (iParse_any qa _ (HTb.out _ HBw.out)).mono ?_
  rintro e w2 ⟨⟨S, H, L, hT, rfl⟩ | ⟨hT, rfl⟩, hb2⟩
  · have HIT := hidP hT
    clear hT
    have k0 := (hb2.cell (p := ⟨w.heap.size, 0, none⟩) (by show w.heap.size < _; first | omega | (simp; omega))).trans k0
    have k1 := (hb2.cell (p := ⟨w.heap.size, 1, none⟩) (by show w.heap.size < _; first | omega | (simp; omega))).trans k1
    have k2 := (hb2.cell (p := ⟨w.heap.size, 2, none⟩) (by show w.heap.size < _; first | omega | (simp; omega))).trans k2
    have k3 := (hb2.cell (p := ⟨w.heap.size, 3, none⟩) (by show w.heap.size < _; first | omega | (simp; omega))).trans k3
    have kf : ∀ o, w2.frozen? ⟨w.heap.size, o, none⟩ = false := fun o => (hb2.frozen (p := ⟨w.heap.size, o, none⟩) (by show w.heap.size < _; first | omega | (simp; omega))).trans (kf o)
    have HBw := hidP (HBw.out.trans (hb2.mono HBw.out.size))
    have hS2 : w.heap.size + 1 ≤ w2.heap.size := by have := hb2.size; omega
    have y2 : w.heap.size < w2.heap.size := by omega
    clear hb2
    go_wp2_with fail
    refine (HAt.out _ (HSh.out _ (HBw.out.alloc (by omega) _))).mono ?_
    rintro e w3 ⟨⟨v, hv, rfl⟩ | ⟨hv, v, et, ep, rfl⟩, hb3⟩
    all_goals
      have k0 := (hb3.cell (p := ⟨w.heap.size, 0, none⟩) (by show w.heap.size < _; simp; omega)).trans (by simpa [go_sem, y2] using k0)
      have k1 := (hb3.cell (p := ⟨w.heap.size, 1, none⟩) (by show w.heap.size < _; simp; omega)).trans (by simpa [go_sem, y2] using k1)
      have k2 := (hb3.cell (p := ⟨w.heap.size, 2, none⟩) (by show w.heap.size < _; simp; omega)).trans (by simpa [go_sem, y2] using k2)
      have k3 := (hb3.cell (p := ⟨w.heap.size, 3, none⟩) (by show w.heap.size < _; simp; omega)).trans (by simpa [go_sem, y2] using k3)
      have kf : ∀ o, w3.frozen? ⟨w.heap.size, o, none⟩ = false := fun o => (hb3.frozen (p := ⟨w.heap.size, o, none⟩) (by show w.heap.size < _; simp; omega)).trans (by simpa [go_sem, y2] using kf o)
      have a0 := hb3.cell (p := ⟨w2.heap.size, 0, none⟩) (by show w2.heap.size < _; simp)
      have a1 := hb3.cell (p := ⟨w2.heap.size, 1, none⟩) (by show w2.heap.size < _; simp)
      have a2 := hb3.cell (p := ⟨w2.heap.size, 2, none⟩) (by show w2.heap.size < _; simp)
      simp [go_sem] at a0 a1 a2
      have hS3 : w2.heap.size + 1 ≤ w3.heap.size := by have := hb3.size; simp at this; omega
      have HBw := hidP ((HBw.out.alloc (by omega) _).trans (hb3.mono (by simp; omega)))
      have y3 : w.heap.size < w3.heap.size := by omega
      have y4 : w2.heap.size < w3.heap.size := by omega
      clear hb3
    · have HV := hidP hv
      clear hv
      go_wp2_with fail
      refine (iPText_any S H L v HIT.out _ (HTb.out _ (HBw.out.alloc (by omega) _))).mono ?_
      rintro e w5 ⟨rfl, hb5⟩
      have j0 := hb5.cell (p := ⟨w3.heap.size, 0, none⟩) (by show w3.heap.size < _; simp)
      have j1 := hb5.cell (p := ⟨w3.heap.size, 1, none⟩) (by show w3.heap.size < _; simp)
      have j2 := hb5.cell (p := ⟨w3.heap.size, 2, none⟩) (by show w3.heap.size < _; simp)
      have j3 := hb5.cell (p := ⟨w3.heap.size, 3, none⟩) (by show w3.heap.size < _; simp)
      simp [go_sem] at j0 j1 j2 j3
      have k0 := (hb5.cell (p := ⟨w.heap.size, 0, none⟩) (by show w.heap.size < _; simp; omega)).trans (by simpa [go_sem, y3] using k0)
      have k1 := (hb5.cell (p := ⟨w.heap.size, 1, none⟩) (by show w.heap.size < _; simp; omega)).trans (by simpa [go_sem, y3] using k1)
      have k2 := (hb5.cell (p := ⟨w.heap.size, 2, none⟩) (by show w.heap.size < _; simp; omega)).trans (by simpa [go_sem, y3] using k2)
      have k3 := (hb5.cell (p := ⟨w.heap.size, 3, none⟩) (by show w.heap.size < _; simp; omega)).trans (by simpa [go_sem, y3] using k3)
      have kf : ∀ o, w5.frozen? ⟨w.heap.size, o, none⟩ = false := fun o => (hb5.frozen (p := ⟨w.heap.size, o, none⟩) (by show w.heap.size < _; simp; omega)).trans (by simpa [go_sem, y3] using kf o)
      have HB5 : Hid (Below w.heap.size w w5) := hidP ((HBw.out.alloc (by omega) _).trans (hb5.mono (by simp; omega)))
      have hS5 : w.heap.size + 1 ≤ w5.heap.size := by have := hb5.size; simp at this; omega
      clear hb5 HBw
      have HBw := HB5
      clear HB5
      by_cases he : l = pT S H L v
      · have HIS : Hid (Q l S (BitVec.ofInt 64 H) (BitVec.ofInt 64 L) v ∧ (BitVec.ofInt 64 H).toInt = H ∧ (BitVec.ofInt 64 L).toInt = L) := hidP (by
          rw [HQ.out]
          have eH := ofJ H HIT.out.2.1
          have eL := ofJ L HIT.out.2.2.1
          refine ⟨?_, eH, eL⟩
          unfold pT at he
          cases hp : pokB S (BitVec.ofInt 64 H) (BitVec.ofInt 64 L) v
          · exfalso
            rw [hp, if_neg (by decide)] at he
            rcases HNE.out with h | h
            · exact h he
            · rw [HV.out] at h; cases h
          · rw [hp, if_pos rfl] at he
            exact ⟨hp, by rw [eH, eL]; exact he⟩)
        generalize pT S H L v = PT at *
        subst he
        go_wp2_with fail
        refine bodyPost_ret (v := .tuple #[.agg #[.bool S, .int .i64 H, .int .i64 L, .int .i64 v], .bool true]) (by simp [results, Tryz.results9, go_sem, k0, k1, k2, k3]) rfl ⟨Or.inl ⟨S, _, _, v, HIS.out.1, by rw [HIS.out.2.1, HIS.out.2.2]⟩, ?_⟩
        repeat (first | with_reducible exact HBw.out | (with_reducible refine Below.setCell ?_ (by first | omega | (simp; done) | (simp; omega)) _) | (with_reducible refine Below.alloc ?_ (by first | omega | (simp; done) | (simp; omega)) _))
      · have HNO : Hid (¬ ∃ S H L b, Q l S H L b) := hidP (by
          rw [HQ.out]
          rintro ⟨S', H', L', b', h⟩
          obtain ⟨e1, e2⟩ := HL.out _ _ _ _ h
          rw [HV.out] at e2
          cases e2
          have hT := HIT.out
          rw [e1] at hT
          obtain ⟨rfl, rfl, rfl⟩ := isT_one hT (isP_T h)
          apply he
          unfold pT
          rw [BitVec.ofInt_toInt, BitVec.ofInt_toInt, if_pos h.1]
          exact h.2)
        have hne := beq_no he
        generalize pT S H L v = PT at *
        go_wp2_with fail
        refine bodyPost_ret (v := .tuple #[.agg #[.bool false, .int .i64 0, .int .i64 0, .int .i64 0], .bool false]) (by simp [results, Tryz.results9, go_sem, k0, k1, k2, k3]) rfl ⟨Or.inr ⟨HNO.out, rfl⟩, ?_⟩
        repeat (first | with_reducible exact HBw.out | (with_reducible refine Below.setCell ?_ (by first | omega | (simp; done) | (simp; omega)) _) | (with_reducible refine Below.alloc ?_ (by first | omega | (simp; done) | (simp; omega)) _))
    · have HNO : Hid (¬ ∃ S H L b, Q l S H L b) := hidP (by
        rw [HQ.out]
        rintro ⟨S', H', L', b', h⟩
        obtain ⟨_, e2⟩ := HL.out _ _ _ _ h
        rw [hv] at e2
        cases e2)
      clear hv
      go_wp2_with fail
      refine bodyPost_ret (v := .tuple #[.agg #[.bool false, .int .i64 0, .int .i64 0, .int .i64 0], .bool false]) (by simp [results, Tryz.results9, go_sem, k0, k1, k2, k3, y3]) rfl ⟨Or.inr ⟨HNO.out, rfl⟩, ?_⟩
      repeat (first | with_reducible exact HBw.out | (with_reducible refine Below.setCell ?_ (by first | omega | (simp; done) | (simp; omega)) _) | (with_reducible refine Below.alloc ?_ (by first | omega | (simp; done) | (simp; omega)) _))
  · have HNO : Hid (¬ ∃ S H L b, Q l S H L b) := hidP (by
      rw [HQ.out]
      rintro ⟨S', H', L', b', h⟩
      obtain ⟨e1, _⟩ := HL.out _ _ _ _ h
      exact hT ⟨_, _, _, by rw [e1]; exact isP_T h⟩)
    have k0 := (hb2.cell (p := ⟨w.heap.size, 0, none⟩) (by show w.heap.size < _; first | omega | (simp; omega))).trans k0
    have k1 := (hb2.cell (p := ⟨w.heap.size, 1, none⟩) (by show w.heap.size < _; first | omega | (simp; omega))).trans k1
    have k2 := (hb2.cell (p := ⟨w.heap.size, 2, none⟩) (by show w.heap.size < _; first | omega | (simp; omega))).trans k2
    have k3 := (hb2.cell (p := ⟨w.heap.size, 3, none⟩) (by show w.heap.size < _; first | omega | (simp; omega))).trans k3
    have kf : ∀ o, w2.frozen? ⟨w.heap.size, o, none⟩ = false := fun o => (hb2.frozen (p := ⟨w.heap.size, o, none⟩) (by show w.heap.size < _; first | omega | (simp; omega))).trans (kf o)
    have HBw := hidP (HBw.out.trans (hb2.mono HBw.out.size))
    have hS2 : w.heap.size + 1 ≤ w2.heap.size := by have := hb2.size; omega
    have y2 : w.heap.size < w2.heap.size := by omega
    clear hb2 hT
    go_wp2_with fail
    refine (HAt.out _ (HSh.out _ (HBw.out.alloc (by omega) _))).mono ?_
    rintro e w3 ⟨⟨v, hv, rfl⟩ | ⟨hv, v, et, ep, rfl⟩, hb3⟩
    all_goals
      have k0 := (hb3.cell (p := ⟨w.heap.size, 0, none⟩) (by show w.heap.size < _; simp; omega)).trans (by simpa [go_sem, y2] using k0)
      have k1 := (hb3.cell (p := ⟨w.heap.size, 1, none⟩) (by show w.heap.size < _; simp; omega)).trans (by simpa [go_sem, y2] using k1)
      have k2 := (hb3.cell (p := ⟨w.heap.size, 2, none⟩) (by show w.heap.size < _; simp; omega)).trans (by simpa [go_sem, y2] using k2)
      have k3 := (hb3.cell (p := ⟨w.heap.size, 3, none⟩) (by show w.heap.size < _; simp; omega)).trans (by simpa [go_sem, y2] using k3)
      have kf : ∀ o, w3.frozen? ⟨w.heap.size, o, none⟩ = false := fun o => (hb3.frozen (p := ⟨w.heap.size, o, none⟩) (by show w.heap.size < _; simp; omega)).trans (by simpa [go_sem, y2] using kf o)
      have a0 := hb3.cell (p := ⟨w2.heap.size, 0, none⟩) (by show w2.heap.size < _; simp)
      have a1 := hb3.cell (p := ⟨w2.heap.size, 1, none⟩) (by show w2.heap.size < _; simp)
      have a2 := hb3.cell (p := ⟨w2.heap.size, 2, none⟩) (by show w2.heap.size < _; simp)
      simp [go_sem] at a0 a1 a2
      have hS3 : w2.heap.size + 1 ≤ w3.heap.size := by have := hb3.size; simp at this; omega
      have HBw := hidP ((HBw.out.alloc (by omega) _).trans (hb3.mono (by simp; omega)))
      have y3 : w.heap.size < w3.heap.size := by omega
      clear hb3 hv
      go_wp2_with fail
      refine bodyPost_ret (v := .tuple #[.agg #[.bool false, .int .i64 0, .int .i64 0, .int .i64 0], .bool false]) (by simp [results, Tryz.results9, go_sem, k0, k1, k2, k3, y3]) rfl ⟨Or.inr ⟨HNO.out, rfl⟩, ?_⟩
      repeat (first | with_reducible exact HBw.out | (with_reducible refine Below.setCell ?_ (by first | omega | (simp; done) | (simp; omega)) _) | (with_reducible refine Below.alloc ?_ (by first | omega | (simp; done) | (simp; omega)) _))

end Go.Proofs.YtadhapggcifldaaGreatDoor
namespace Go.Proofs.YtadhapggcifldaaGreatDoor

theorem index47 : ∀ (a r : List UInt8), (47 : UInt8) ∉ a → Lib.index (a ++ 47 :: r) [47] = a.length
  | [], r, _ => by simp [Lib.index, List.isPrefixOf]
  | c :: a, r, h => by
    simp only [List.mem_cons, not_or] at h
    have ih := index47 a r h.2
    have hc : ((47 : UInt8) == c) = false := by simpa using h.1
    rw [List.cons_append, Lib.index, if_neg (by simp [List.isPrefixOf, hc]), ih, if_neg (by simp), List.length_cons]
    omega
theorem cut47 (a r : List UInt8) (h : (47 : UInt8) ∉ a) : Lib.cut (a ++ 47 :: r) [47] = (a, r, true) := by
  unfold Lib.cut
  rw [index47 a r h, if_pos (by omega)]
  simp
theorem isP_cut {l : List UInt8} {S : Bool} {H L : BitVec 64} {b : Int} (h : IsP l S H L b) : Lib.cut l [47] = (tA S H.toInt L.toInt, decs b, true) := by
  rw [h.2, List.append_assoc]
  exact cut47 _ _ (tA_no47 _ _ _)
theorem atoi_decsN : ∀ b : Nat, b < 129 → Lib.atoiAll (decs (b : Int)) = .ok (b : Int) := by decide +kernel
theorem atoi_decs (b : Int) (h0 : 0 ≤ b) (h1 : b ≤ 128) : Lib.atoiAll (decs b) = .ok b := by
  obtain ⟨k, rfl⟩ : ∃ k : Nat, b = (k : Int) := ⟨b.toNat, by omega⟩
  exact atoi_decsN k (by omega)

end Go.Proofs.YtadhapggcifldaaGreatDoor
namespace Go.Proofs.YtadhapggcifldaaGreatDoor
open Go.RowKit

/-- The package-level variables that strings.Cut and strconv.Atoi read. -/
structure ShP (w : World) : Prop where
  m : ∃ m, w.cell? ⟨0, 0, none⟩ = some (.int .i64 m)
  sy : ∃ ev, w.cell? ⟨1, 0, none⟩ = some ev ∧ (ev = .nilIface ∨ ∃ te pe, ev = .iface te pe)
  rg : ∃ ev, w.cell? ⟨2, 0, none⟩ = some ev ∧ (ev = .nilIface ∨ ∃ te pe, ev = .iface te pe)
  big : 6 ≤ w.heap.size
theorem ShP.below {x y : World} (h : ShP x) (hb : Below x.heap.size x y) : ShP y := by
  have hg := h.big
  obtain ⟨m, hm⟩ := h.m
  obtain ⟨e1, h1, k1⟩ := h.sy
  obtain ⟨e2, h2, k2⟩ := h.rg
  exact ⟨⟨m, (hb.cell (by show 0 < _; omega)).trans hm⟩, ⟨e1, (hb.cell (by show 1 < _; omega)).trans h1, k1⟩, ⟨e2, (hb.cell (by show 2 < _; omega)).trans h2, k2⟩, by have := hb.size; omega⟩
/-- What Atoi makes of a text. -/
def atO (l : List UInt8) : Option Int := match Lib.atoiAll l with
  | .ok v => some v
  | _ => none
theorem below_drewQ (w : World) : ∀ n : Nat, Below w.heap.size w (w.drewN n) := fun n => below_drewN (Below.refl _ w) n
theorem cutQ_len (l : List UInt8) : (Lib.cut l [47]).2.1.length ≤ l.length := by
  unfold Lib.cut; split
  · simp
  · simp
theorem iPrefix_any (l : List UInt8) (hl : l.length ≤ 1048576) (w : World) (ht : Tabs w) (hs : ShP w) :
    Calls Tryz.prog 9 #[.string ⟨l.toArray⟩] w fun e w' => ((∃ S H L b, IsP l S H L b ∧ e = .returned (.tuple #[.agg #[.bool S, .int .i64 H.toInt, .int .i64 L.toInt, .int .i64 b], .bool true])) ∨ ((¬ ∃ S H L b, IsP l S H L b) ∧ e = .returned (.tuple #[.agg #[.bool false, .int .i64 0, .int .i64 0, .int .i64 0], .bool false]))) ∧ Below w.heap.size w w' := by
  have hq := cutQ_len l
  refine iPrefix_of l (Lib.cut l [47]).1 (Lib.cut l [47]).2.1 (Lib.cut l [47]).2.2 (atO (Lib.cut l [47]).2.1) ShP (fun x y h hb => h.below hb) ?_ ?_ ?_ ?_ w ht hs
  · intro x hx
    obtain ⟨m, hm⟩ := hx.m
    refine (Tryz.strings_Cut ⟨l.toArray⟩ ⟨#[47]⟩ m x (by show l.toArray.size < _; simp; omega) hm).mono ?_
    rintro e x' ⟨rfl, n, rfl⟩
    exact ⟨rfl, below_drewQ x n⟩
  · intro x hx
    generalize (Lib.cut l [47]).2.1 = q at *
    have hz : (⟨q.toArray⟩ : ByteArray).size = q.length := by show q.toArray.size = _; simp
    unfold atO
    cases ha : Lib.atoiAll q with
    | ok v =>
      refine (Tryz.strconv_Atoi_ok ⟨q.toArray⟩ (by omega) v ha x).mono ?_
      rintro e x' ⟨rfl, rfl | ⟨t, rfl⟩⟩
      · exact ⟨Or.inl ⟨v, rfl, rfl⟩, Below.refl _ _⟩
      · exact ⟨Or.inl ⟨v, rfl, rfl⟩, Joins.below_bytesWorld _ _ _ _ (Nat.le_refl _)⟩
    | «syntax» =>
      obtain ⟨ev, h1, k1⟩ := hx.sy
      refine (Tryz.strconv_Atoi_syntax ⟨q.toArray⟩ (by omega) ha ev x h1 k1).mono ?_
      rintro e x' ⟨N, rfl, _, _, hb⟩
      exact ⟨Or.inr ⟨rfl, _, _, _, rfl⟩, hb⟩
    | range =>
      obtain ⟨ev, h1, k1⟩ := hx.rg
      refine (Tryz.strconv_Atoi_range ⟨q.toArray⟩ (by omega) ha ev x h1 k1).mono ?_
      rintro e x' ⟨N, rfl, _, _, hb⟩
      exact ⟨Or.inr ⟨rfl, _, _, _, rfl⟩, hb⟩
  · intro S H L b h
    have hb := isP_bd h
    rw [isP_cut h]
    refine ⟨rfl, ?_⟩
    show atO (decs b) = some b
    unfold atO
    rw [atoi_decs b hb.1 hb.2]
  · by_cases h : l = []
    · right; subst h; rfl
    · exact Or.inl h

end Go.Proofs.YtadhapggcifldaaGreatDoor
namespace Go.Proofs.YtadhapggcifldaaGreatDoor
open Go.RowKit

theorem addTo_v2 (s : Bool) (h l n : Int) (hok : okB s h l = true) (wh : -9223372036854775808 ≤ h ∧ h ≤ 9223372036854775807) (wl : -9223372036854775808 ≤ l ∧ l ≤ 9223372036854775807) (wn : n ≤ 9223372036854775807) :
    ∃ (S : Bool) (H L : Int) (ok : Bool),
      (∀ w : World, Calls Tryz.prog 30 #[.agg #[.bool s, .int .i64 h, .int .i64 l], .int .i64 n] w fun e w' => e = .returned (.tuple #[.agg #[.bool S, .int .i64 H, .int .i64 L], .bool ok]) ∧ Below w.heap.size w w') ∧
      (∀ w : World, Calls Tryz.prog 28 #[.agg #[.bool s, .int .i64 h, .int .i64 l], .int .i64 n] w fun e w' => e = .returned (.tuple #[.agg #[.bool S, .int .i64 H, .int .i64 L], .bool ok]) ∧ Below w.heap.size w w') ∧ AddI s h l n S H L ok ∧ (ok = false → H = 0 ∧ L = 0) := by
  have hz : Nrm s h l s h l := Or.inl ⟨hok, rfl, rfl, rfl⟩
  by_cases hn : n < 0
  · exact ⟨false, 0, 0, false, sAddTo_neg s h l n s h l hz hn, iAddTo_neg s h l n hn, (fun e => by cases e), fun _ => ⟨rfl, rfl⟩⟩
  have hn0 : 0 ≤ n := by omega
  have a1 := add64 (IntKind.u64.wrap l) (IntKind.u64.wrap n) 0 (Word_u _) (Word_u _) Bit0
  cases s
  · have h3 : h = 0 ∧ 0 ≤ l ∧ l ≤ 4294967295 := by simp [okB] at hok; exact hok
    obtain ⟨rfl, h0, h1⟩ := h3
    have ec := four_c l n h0 h1 hn0 wn
    rw [ec] at a1
    have a2 := add64 (IntKind.u64.wrap 0) 0 0 (Word_u _) Word0 Bit0
    by_cases hle : n ≤ 4294967295 - l
    · have i := iAddTo_ok false 0 l n false 0 l _ 0 _ _ hz hn0 a1 a2 (past_0 0) (by
        show okB _ _ _ = true
        rw [hi_0 0 (by omega), four_ok l n h0 hn0 hle]; exact four_yes l n h0 hn0 hle)
      rw [hi_0 0 (by omega), four_ok l n h0 hn0 hle] at i
      exact ⟨false, 0, l + n, true, sAddTo_four false 0 l n 0 l hz h0 h1 hn0 wn hle, i, fun _ => ⟨hn0, rfl, four_yes l n h0 hn0 hle, by omega, by omega, by unfold Behind uwd; omega⟩, fun h => by cases h⟩
    · have i := iAddTo_bad false 0 l n false 0 l _ 0 _ _ hz hn0 a1 a2 (past_0 0) (by
        show okB _ _ _ = false
        rw [hi_0 0 (by omega)]; exact four_no l n h0 h1 hn0 wn (by omega))
      exact ⟨false, 0, 0, false, sAddTo_fourno false 0 l n 0 l hz h0 h1 hn0 wn (by omega), i, (fun e => by cases e), fun _ => ⟨rfl, rfl⟩⟩
  · by_cases hc : IntKind.u64.wrap l + IntKind.u64.wrap n < 18446744073709551616
    · rw [add_c0 l n hc] at a1
      have a2 := add64 (IntKind.u64.wrap h) 0 0 (Word_u _) Word0 Bit0
      have i := iAddTo_ok true h l n true h l _ 0 _ _ hz hn0 a1 a2 (past_0 h) (okB_t _ _)
      rw [hi_0 h wh, lo_eq] at i
      refine ⟨true, h, _, true, sAddTo_six true h l n h l hz hn0 (less_0 l n hc), i, fun _ => ⟨hn0, rfl, okB_t _ _, wh, w64_bd _, ?_⟩, fun h => by cases h⟩
      unfold Behind
      rw [uwd_w64, uwd_is, uwd_is, uwd_is] at *
      unfold uwd at *
      omega
    · rw [add_c1 l n hc] at a1
      have a2 := add64 (IntKind.u64.wrap h) 0 1 (Word_u _) Word0 Bit1
      cases hg : (wrap64 (IntKind.u64.wrap (IntKind.u64.wrap h + 1)) == 0)
      · have i := iAddTo_ok true h l n true h l _ 1 _ _ hz hn0 a1 a2 (past_1 h hg) (okB_t _ _)
        rw [hi_1, lo_eq] at i
        refine ⟨true, _, _, true, sAddTo_sixc true h l n h l hz hn0 (less_1 l n hc) hg, i, fun _ => ⟨hn0, rfl, okB_t _ _, w64_bd _, w64_bd _, ?_⟩, fun h => by cases h⟩
        have hg' : wrap64 (IntKind.u64.wrap (IntKind.u64.wrap h + 1)) ≠ 0 := by rw [beq_eq_false_iff_ne] at hg; exact hg
        unfold Behind
        rw [uwd_w64, uwd_w64]
        simp only [uwd_is] at *
        rw [wrap64] at hg'
        unfold uwd at *
        omega
      · have i := iAddTo_past true h l n true h l _ 1 _ _ hz hn0 a1 a2 (past_2 h hg)
        exact ⟨false, 0, 0, false, sAddTo_sixno true h l n h l hz hn0 (less_1 l n hc) hg, i, (fun e => by cases e), fun _ => ⟨rfl, rfl⟩⟩


theorem iText_ok (S : Bool) (H L : Int) (hok : okB S H L = true) (w : World) (ht : Tabs w) : Calls Tryz.prog 22 #[.agg #[.bool S, .int .i64 H, .int .i64 L]] w fun e w' => e = .returned (.string ⟨(tA S H L).toArray⟩) ∧ Below w.heap.size w w' := by
  cases S
  · obtain ⟨rfl, h0, h1⟩ := ok_four hok
    exact iText_four false 0 L 0 L (nrm_ok hok) h0 h1 w ht
  · exact iText_six true H L H L (nrm_ok hok) w ht
theorem tA_len2 (S : Bool) (H L : Int) : (tA S H L).length ≤ 100 := by
  unfold tA
  split
  · exact txt8_len _
  · exact txt4_len _
theorem isP_one2 {l : List UInt8} {S S' : Bool} {H H' L L' : BitVec 64} {b b' : Int} (h : IsP l S H L b) (h' : IsP l S' H' L' b') : S = S' ∧ H = H' ∧ L = L' ∧ b = b' := by
  have c1 := isP_cut h
  have c2 := isP_cut h'
  rw [c1] at c2
  simp only [Prod.mk.injEq, and_true] at c2
  have t1 := isP_T h
  rw [c2.1] at t1
  obtain ⟨e1, e2, e3⟩ := isT_one t1 (isP_T h')
  have b1 := isP_bd h
  have b2 := isP_bd h'
  have a1 := atoi_decs b b1.1 b1.2
  rw [c2.2, atoi_decs b' b2.1 b2.2] at a1
  refine ⟨e1, BitVec.toInt_inj.1 e2, BitVec.toInt_inj.1 e3, ?_⟩
  cases a1; rfl
theorem ptext (s : Bool) (H L : BitVec 64) (b : Int) (hp : pokB s H L b = true) (w : World) (hw : Tabs w) :
    Calls Tryz.prog 7 #[.agg #[.bool s, .int .i64 H.toInt, .int .i64 L.toInt, .int .i64 b]] w fun e w' => e = .returned (.string ⟨(tA s H.toInt L.toInt ++ [47] ++ decs b).toArray⟩) ∧ Below w.heap.size w w' := by
  have h := pokB_parts hp
  have hw2 := wd_le' s
  exact iPText_yes s H L b (tA s H.toInt L.toInt) (decs b) h.2.1.1 (by omega) (tA_len2 _ _ _) (decs_len b) rfl (fun w ht => iText_ok s H.toInt L.toInt h.1 w ht) hp w hw
theorem pparse (s : Bool) (H L : BitVec 64) (b : Int) (hp : pokB s H L b = true) (w : World) (hw : Tabs w) (hs : ShP w) :
    Calls Tryz.prog 9 #[.string ⟨(tA s H.toInt L.toInt ++ [47] ++ decs b).toArray⟩] w fun e w' => e = .returned (.tuple #[.agg #[.bool s, .int .i64 H.toInt, .int .i64 L.toInt, .int .i64 b], .bool true]) ∧ Below w.heap.size w w' := by
  have hI : IsP (tA s H.toInt L.toInt ++ [47] ++ decs b) s H L b := ⟨hp, rfl⟩
  have hl : (tA s H.toInt L.toInt ++ [47] ++ decs b).length ≤ 1048576 := by
    have := tA_len2 s H.toInt L.toInt; have := decs_len b
    simp only [List.length_append, List.length_cons, List.length_nil]; omega
  refine (iPrefix_any _ hl w hw hs).mono ?_
  rintro e w' ⟨⟨S', H', L', b', h, rfl⟩ | ⟨h, _⟩, hb⟩
  · obtain ⟨rfl, rfl, rfl, rfl⟩ := isP_one2 h hI
    exact ⟨rfl, hb⟩
  · exact absurd ⟨_, _, _, _, hI⟩ h
/-- What NthOf of a right prefix answers, and what follows of it. -/
def NthA (s : Bool) (H L : BitVec 64) (b N : Int) (S : Bool) (X Y : BitVec 64) (ok : Bool) : Prop :=
  (∀ w : World, Calls Tryz.prog 10 #[.agg #[.bool s, .int .i64 H.toInt, .int .i64 L.toInt, .int .i64 b], .int .i64 N] w fun e w' => e = .returned (.tuple #[.agg #[.bool S, .int .i64 X.toInt, .int .i64 Y.toInt], .bool ok]) ∧ Below w.heap.size w w') ∧
  (∀ w : World, Calls Tryz.prog 11 #[.agg #[.bool s, .int .i64 H.toInt, .int .i64 L.toInt, .int .i64 b], .int .i64 N] w fun e w' => e = .returned (.tuple #[.agg #[.bool S, .int .i64 X.toInt, .int .i64 Y.toInt], .bool ok]) ∧ Below w.heap.size w w') ∧
  (ok = true → (∀ w : World, Calls Tryz.prog 12 #[.agg #[.bool s, .int .i64 H.toInt, .int .i64 L.toInt, .int .i64 b], .agg #[.bool S, .int .i64 X.toInt, .int .i64 Y.toInt]] w fun e w' => e = .returned (.tuple #[.int .i64 N, .bool true]) ∧ Below w.heap.size w w') ∧
    (∀ w : World, Calls Tryz.prog 13 #[.agg #[.bool S, .int .i64 X.toInt, .int .i64 Y.toInt], .int .i64 b] w fun e w' => e = .returned (.tuple #[.agg #[.bool s, .int .i64 H.toInt, .int .i64 L.toInt, .int .i64 b], .bool true]) ∧ Below w.heap.size w w') ∧
    (∀ w : World, Calls Tryz.prog 14 #[.agg #[.bool s, .int .i64 H.toInt, .int .i64 L.toInt, .int .i64 b], .agg #[.bool S, .int .i64 X.toInt, .int .i64 Y.toInt]] w fun e w' => e = .returned (.bool true) ∧ Below w.heap.size w w'))
theorem nth_both (s : Bool) (H L : BitVec 64) (b N : Int) (hN : N ≤ 9223372036854775807) (hp : pokB s H L b = true) : ∃ S X Y ok, NthA s H L b N S X Y ok := by
  obtain ⟨hok, hb, hh⟩ := pokB_parts hp
  obtain ⟨n, hn⟩ : ∃ n : Nat, (n : Int) = (wd s : Int) - b := ⟨((wd s : Int) - b).toNat, by omega⟩
  have en : ((wd s : Int) - b).toNat = n := by omega
  obtain ⟨S, X0, Y0, ok, cS, cI, hA, hF⟩ := addTo_v2 s H.toInt L.toInt N hok (bdB H) (bdB L) hN
  cases ok
  · obtain ⟨rfl, rfl⟩ := hF rfl
    have z : ((0 : BitVec 64).toInt) = 0 := by decide
    exact ⟨false, 0, 0, false, fun w => by rw [z]; exact iNthOf_past s H L b N S 0 0 n hn hp (by rw [z]; exact cI) w, fun w => by rw [z]; exact sNthOf_past s H L b N S 0 0 hp (by rw [z]; exact cS) w, fun h => by cases h⟩
  · obtain ⟨hn0, rfl, hok2, bX, bY, hbe⟩ := hA rfl
    obtain ⟨X, rfl⟩ : ∃ X : BitVec 64, X0 = X.toInt := ⟨BitVec.ofInt 64 X0, (ofJ X0 bX).symm⟩
    obtain ⟨Y, rfl⟩ : ∃ Y : BitVec 64, Y0 = Y.toInt := ⟨BitVec.ofInt 64 Y0, (ofJ Y0 bY).symm⟩
    have hhad : hadB S H L b S X Y = hasB S H L n S X Y := by unfold hadB; rw [hp, hok2, en, Bool.true_and, Bool.true_and]
    cases hc : hasB S H L n S X Y
    · have z : ((0 : BitVec 64).toInt) = 0 := by decide
      exact ⟨false, 0, 0, false, fun w => by rw [z]; exact iNthOf_off S H L b N S X Y n hn hp cI hc w, fun w => by rw [z]; exact sNthOf_off S H L b N S X Y hp cS (hhad.trans hc) w, fun h => by cases h⟩
    · refine ⟨_, _, _, true, iNthOf_yes S H L b N S X Y n hn hp cI hc, sNthOf_yes S H L b N S X Y hp cS (hhad.trans hc), fun _ => ⟨fun w => ?_, fun w => ?_, fun w => ?_⟩⟩
      · exact iPlaceOf_yes S H L b S X Y N true (hhad.trans hc) (fun w => gap_val S H.toInt L.toInt X.toInt Y.toInt N hok hok2 hn0 hN hbe w) w
      · have hcc := hc
        unfold hasB at hcc
        simp only [Bool.and_eq_true, beq_iff_eq] at hcc
        have hw2 := wd_le' S
        have hsub := wrapSub S b hb
        rw [en] at hsub
        have hq := iPrefixOf_yes S X Y b n (by omega) hok2 hb.1 hb.2 hsub w
        rw [hcc.2.1, hcc.2.2] at hq
        exact hq
      · have hq := iHasAddr_any S H L b S X Y w
        rw [hhad.trans hc] at hq
        exact hq

end Go.Proofs.YtadhapggcifldaaGreatDoor
namespace Go.Proofs.YtadhapggcifldaaGreatDoor
open Go.RowKit

/-- Block c holds a cursor over the row (a, len, cap): its bytes are there, its place is within. -/
structure Cur (W : World) (c : Nat) (a : Option Addr) (len cap : Nat) : Prop where
  row : W.cell? ⟨c, 0, none⟩ = some (.slice a len cap)
  idx : ∃ i : Nat, i ≤ len ∧ W.cell? ⟨c, 1, none⟩ = some (.int .i64 i)
  mix : ∃ h : Int, W.cell? ⟨c, 2, none⟩ = some (.int .i64 h)
  fr1 : W.frozen? ⟨c, 1, none⟩ = false
  fr2 : W.frozen? ⟨c, 2, none⟩ = false
  byt : ∀ j, j < len → ∃ p o v, a = some ⟨p, o, none⟩ ∧ p < c ∧ W.cell? ⟨p, o + j, none⟩ = some (.int .u8 v) ∧ 0 ≤ v ∧ v < 256
  few : len ≤ 1048576

/-- What a draw keeps: what is older than block c as a whole, and every block but c. -/
structure Kp (c : Nat) (W X : World) : Prop where
  low : Below c W X
  big : W.heap.size ≤ X.heap.size
  cel : ∀ b o, b < W.heap.size → b ≠ c → X.cell? ⟨b, o, none⟩ = W.cell? ⟨b, o, none⟩
  frz : ∀ b o, b < W.heap.size → b ≠ c → X.frozen? ⟨b, o, none⟩ = W.frozen? ⟨b, o, none⟩
  blk : ∀ b, b < W.heap.size → b ≠ c → X.heap[b]? = W.heap[b]?

theorem Kp.refl (c : Nat) (W : World) : Kp c W W := ⟨Below.refl _ _, Nat.le_refl _, fun _ _ _ _ => rfl, fun _ _ _ _ => rfl, fun _ _ _ => rfl⟩
theorem Kp.trans {c : Nat} {W X Y : World} (h : Kp c W X) (k : Kp c X Y) : Kp c W Y :=
  ⟨h.low.trans k.low, Nat.le_trans h.big k.big, fun b o hb hc => (k.cel b o (Nat.lt_of_lt_of_le hb h.big) hc).trans (h.cel b o hb hc), fun b o hb hc => (k.frz b o (Nat.lt_of_lt_of_le hb h.big) hc).trans (h.frz b o hb hc), fun b hb hc => (k.blk b (Nat.lt_of_lt_of_le hb h.big) hc).trans (h.blk b hb hc)⟩
/-- What only makes memory keeps all. -/
theorem Kp.of_below {c : Nat} {W X : World} (hc : c < W.heap.size) (h : Below W.heap.size W X) : Kp c W X :=
  ⟨h.mono (Nat.le_of_lt hc), h.size, fun _ _ hb _ => h.cell hb, fun _ _ hb _ => h.frozen hb, fun b hb _ => h.block b hb⟩
theorem Cur.lt {W : World} {c : Nat} {a : Option Addr} {len cap : Nat} (h : Cur W c a len cap) : c < W.heap.size := World.block_lt_of_cell? W _ h.row
/-- The cursor lies as it did behind what turns neither it nor what is older. -/
theorem Cur.keep {W X : World} {c : Nat} {a : Option Addr} {len cap : Nat} (h : Cur W c a len cap) (k : Below (c + 1) W X) : Cur X c a len cap := by
  obtain ⟨i, hi, h1⟩ := h.idx
  obtain ⟨m, h2⟩ := h.mix
  refine ⟨(k.cell (Nat.lt_succ_self c)).trans h.row, ⟨i, hi, (k.cell (Nat.lt_succ_self c)).trans h1⟩, ⟨m, (k.cell (Nat.lt_succ_self c)).trans h2⟩, (k.frozen (Nat.lt_succ_self c)).trans h.fr1, (k.frozen (Nat.lt_succ_self c)).trans h.fr2, fun j hj => ?_, h.few⟩
  obtain ⟨p, o, v, ha, hp, hv, h0, h9⟩ := h.byt j hj
  exact ⟨p, o, v, ha, hp, (k.cell (Nat.lt_succ_of_lt hp)).trans hv, h0, h9⟩
theorem Cur.grew {W X : World} {c : Nat} {a : Option Addr} {len cap : Nat} (h : Cur W c a len cap) (k : Below W.heap.size W X) : Cur X c a len cap := h.keep (k.mono h.lt)

/-- A store into the cursor's second or third word. -/
theorem Cur.set1 {W : World} {c : Nat} {a : Option Addr} {len cap : Nat} (h : Cur W c a len cap) (z : Int) (i : Nat) (hz : z = (i : Int)) (hi : i ≤ len) : Cur (W.setCell ⟨c, 1, none⟩ (.int .i64 z)) c a len cap := by
  subst hz
  obtain ⟨i0, _, h1⟩ := h.idx
  obtain ⟨m, h2⟩ := h.mix
  refine ⟨?_, ⟨i, hi, ?_⟩, ⟨m, ?_⟩, ?_, ?_, fun j hj => ?_, h.few⟩
  · simp [go_sem, h.row]
  · simp [go_sem, h1]
  · simp [go_sem, h2]
  · simp [go_sem, h.fr1]
  · simp [go_sem, h.fr2]
  · obtain ⟨p, o, v, ha, hp, hv, h0, h9⟩ := h.byt j hj
    exact ⟨p, o, v, ha, hp, (World.cell?_setCell_far _ _ _ _ (by show c ≠ p; omega)).trans hv, h0, h9⟩
theorem Cur.set2 {W : World} {c : Nat} {a : Option Addr} {len cap : Nat} (h : Cur W c a len cap) (m : Int) : Cur (W.setCell ⟨c, 2, none⟩ (.int .i64 m)) c a len cap := by
  obtain ⟨i0, hi, h1⟩ := h.idx
  obtain ⟨m0, h2⟩ := h.mix
  refine ⟨?_, ⟨i0, hi, ?_⟩, ⟨m, ?_⟩, ?_, ?_, fun j hj => ?_, h.few⟩
  · simp [go_sem, h.row]
  · simp [go_sem, h1]
  · simp [go_sem, h2]
  · simp [go_sem, h.fr1]
  · simp [go_sem, h.fr2]
  · obtain ⟨p, o, v, ha, hp, hv, h0, h9⟩ := h.byt j hj
    exact ⟨p, o, v, ha, hp, (World.cell?_setCell_far _ _ _ _ (by show c ≠ p; omega)).trans hv, h0, h9⟩
theorem Cur.drew {W : World} {c : Nat} {a : Option Addr} {len cap : Nat} (h : Cur W c a len cap) : Cur W.drew c a len cap := h.grew (Below.refl _ W).drew
theorem Kp.drew (c : Nat) (W : World) : Kp c W W.drew := ⟨(Below.refl _ W).drew, by simp, fun _ _ _ _ => by simp [go_sem], fun _ _ _ _ => by simp [go_sem], fun _ _ _ => rfl⟩
theorem Kp.set (c : Nat) (W : World) (o : Nat) (v : Value) : Kp c W (W.setCell ⟨c, o, none⟩ v) :=
  ⟨(Below.refl _ W).setCell (by simp) _, by simp, fun b q _ hc => World.cell?_setCell_far _ _ _ _ (by show c ≠ b; omega), fun b q _ _ => by simp [go_sem], fun b _ hc => Below.heap_setCell W ⟨c, o, none⟩ v b hc⟩

end Go.Proofs.YtadhapggcifldaaGreatDoor
namespace Go.Proofs.YtadhapggcifldaaGreatDoor
open Go.RowKit

theorem and255 (x : Int) : 0 ≤ bits .and .i64 x 255 ∧ bits .and .i64 x 255 ≤ 255 := by
  have e : bits .and .i64 x 255 = IntKind.i64.wrap ((BitVec.ofInt 64 x &&& BitVec.ofInt 64 255).toNat : Int) := rfl
  have h : (BitVec.ofInt 64 x &&& BitVec.ofInt 64 255).toNat ≤ 255 := by
    rw [BitVec.toNat_and]
    exact Nat.le_trans Nat.and_le_right (by decide)
  rw [e, IntKind.wrap_i64]
  omega

set_option maxHeartbeats 1000000 in
theorem l1Byte_any (c : Nat) (a : Option Addr) (len cap : Nat) (W : World) (hC : Cur W c a len cap) :
    Calls Tryz.prog 57 #[.pointer (some ⟨c, 0, none⟩)] W fun e W' => (∃ x : Int, 0 ≤ x ∧ x ≤ 255 ∧ e = .returned (.int .i64 x)) ∧ Cur W' c a len cap ∧ Kp c W W' := by
  have HC : Hid (Cur W c a len cap) := hC
  obtain ⟨i, hi, c1⟩ := hC.idx
  obtain ⟨m, c2⟩ := hC.mix
  have c0 := hC.row
  have g1 := hC.fr1
  have g2 := hC.fr2
  have hl := hC.few
  by_cases hlt : i < len
  · obtain ⟨p, o, v, rfl, hp, cv, v0, v9⟩ := hC.byt i hlt
    have hne : c ≠ p := by omega
    clear hC
    go_enter Tryz.func57, Tryz.ntmps57
    go_wp2_with fail
    go_region
    all_goals
      go_wp2_with fail
      go_region
    all_goals
      go_wp2_with fail
      go_region
    all_goals
      go_wp2_with fail
      go_ret
      refine ⟨⟨_, (and255 _).1, (and255 _).2, rfl⟩, ?_, ?_⟩
      · repeat (first | with_reducible exact HC.out | with_reducible refine Cur.drew ?_ | with_reducible refine Cur.set2 ?_ _ | (with_reducible refine Cur.set1 ?_ _ (i + 1) (by omega) (by omega)))
      · repeat (first | with_reducible exact Kp.refl _ _ | (with_reducible refine Kp.trans ?_ (Kp.drew _ _)) | (with_reducible refine Kp.trans ?_ (Kp.set _ _ _ _)))
  · clear hC
    go_enter Tryz.func57, Tryz.ntmps57
    go_wp2_with fail
    go_region
    all_goals
      go_wp2_with fail
      go_region
    all_goals
      go_wp2_with fail
      go_ret
      refine ⟨⟨_, (and255 _).1, (and255 _).2, rfl⟩, ?_, ?_⟩
      · repeat (first | with_reducible exact HC.out | with_reducible refine Cur.drew ?_ | with_reducible refine Cur.set2 ?_ _)
      · repeat (first | with_reducible exact Kp.refl _ _ | (with_reducible refine Kp.trans ?_ (Kp.drew _ _)) | (with_reducible refine Kp.trans ?_ (Kp.set _ _ _ _)))

end Go.Proofs.YtadhapggcifldaaGreatDoor
namespace Go.Proofs.YtadhapggcifldaaGreatDoor
open Go.RowKit

set_option maxHeartbeats 1000000 in
theorem l1Below_any (c : Nat) (a : Option Addr) (len cap : Nat) (n : Int) (W : World) (hC : Cur W c a len cap) :
    Calls Tryz.prog 38 #[.pointer (some ⟨c, 0, none⟩), .int .i64 n] W fun e W' => (∃ x : Int, 0 ≤ x ∧ (0 < n → x < n) ∧ e = .returned (.int .i64 x)) ∧ Cur W' c a len cap ∧ Kp c W W' := by
  have HC : Hid (Cur W c a len cap) := hC
  clear hC
  by_cases h0 : n ≤ 0
  · go_enter Tryz.func38, Tryz.ntmps38
    go_wp2_with fail
    go_ret
    exact ⟨⟨0, Int.le_refl _, fun h => h, rfl⟩, HC.out, Kp.refl _ _⟩
  · by_cases h1 : n ≤ 256
    · go_enter Tryz.func38, Tryz.ntmps38
      go_wp2_with fail
      refine (l1Byte_any c a len cap _ HC.out).mono ?_
      rintro e W1 ⟨⟨x, x0, x9, rfl⟩, hC1, hK1⟩
      go_wp2_with fail
      go_ret
      exact ⟨⟨x % n, Int.emod_nonneg _ (by omega), fun _ => Int.emod_lt_of_pos _ (by omega), rfl⟩, hC1, hK1⟩
    · go_enter Tryz.func38, Tryz.ntmps38
      go_wp2_with fail
      refine (l1Byte_any c a len cap _ HC.out).mono ?_
      rintro e W1 ⟨⟨x, x0, x9, rfl⟩, hC1, hK1⟩
      have HC1 : Hid (Cur W1 c a len cap) := hC1
      have HK1 : Hid (Kp c W W1) := hK1
      clear hC1 hK1
      go_wp2_with fail
      refine (l1Byte_any c a len cap _ HC1.out).mono ?_
      rintro e W2 ⟨⟨y, y0, y9, rfl⟩, hC2, hK2⟩
      have HC2 : Hid (Cur W2 c a len cap) := hC2
      have HK2 : Hid (Kp c W1 W2) := hK2
      clear hC2 hK2
      go_wp2_with fail
      refine (l1Byte_any c a len cap _ HC2.out).mono ?_
      rintro e W3 ⟨⟨z, z0, z9, rfl⟩, hC3, hK3⟩
      go_wp2_with fail
      go_ret
      exact ⟨⟨_, Int.emod_nonneg _ (by omega), fun _ => Int.emod_lt_of_pos _ (by omega), rfl⟩, hC3, (HK1.out.trans HK2.out).trans hK3⟩

set_option maxHeartbeats 1000000 in
theorem l1Once_any (c : Nat) (a : Option Addr) (len cap : Nat) (n : Int) (W : World) (hC : Cur W c a len cap) :
    Calls Tryz.prog 70 #[.pointer (some ⟨c, 0, none⟩), .int .i64 n] W fun e W' => (∃ B : Bool, e = .returned (.bool B)) ∧ Cur W' c a len cap ∧ Kp c W W' := by
  have HC : Hid (Cur W c a len cap) := hC
  clear hC
  go_enter Tryz.func70, Tryz.ntmps70
  go_wp2_with fail
  refine (l1Below_any c a len cap n _ HC.out).mono ?_
  rintro e W1 ⟨⟨x, x0, x9, rfl⟩, hC1, hK1⟩
  go_wp2_with fail
  go_ret
  exact ⟨⟨_, rfl⟩, hC1, hK1⟩

/-- A number of the kind int. -/
def I64 (z : Int) : Prop := -9223372036854775808 ≤ z ∧ z ≤ 9223372036854775807

set_option maxHeartbeats 1000000 in
theorem l1Int_any (P : Int → Prop) (c : Nat) (a : Option Addr) (len cap : Nat) (q k : Nat) (W : World) (hC : Cur W c a len cap) (hk : 0 < k) (hk1 : k ≤ 100) (hq : q < W.heap.size) (hqc : q ≠ c) (hv : ∀ j, j < k → ∃ z, P z ∧ W.cell? ⟨q, j, none⟩ = some (.int .i64 z)) :
    Calls Tryz.prog 17 #[.pointer (some ⟨c, 0, none⟩), .slice (some ⟨q, 0, none⟩) k k] W fun e W' => (∃ z, P z ∧ e = .returned (.int .i64 z)) ∧ Cur W' c a len cap ∧ Kp c W W' := by
  have HC : Hid (Cur W c a len cap) := hC
  have HV : Hid (∀ j, j < k → ∃ z, P z ∧ W.cell? ⟨q, j, none⟩ = some (.int .i64 z)) := hv
  clear hC hv
  go_enter Tryz.func17, Tryz.ntmps17
  go_wp2_with fail
  refine (l1Below_any c a len cap k _ HC.out).mono ?_
  rintro e W1 ⟨⟨x, x0, x9, rfl⟩, hC1, hK1⟩
  obtain ⟨j, rfl⟩ : ∃ j : Nat, x = (j : Int) := ⟨x.toNat, by omega⟩
  have hj : j < k := by omega
  obtain ⟨z, hz, hc⟩ := HV.out j hj
  have cv : W1.cell? ⟨q, j, none⟩ = some (.int .i64 z) := (hK1.cel q j hq hqc).trans hc
  have HZ : Hid (P z) := hz
  have HK : Hid (Kp c W W1) := hK1
  have HC1 : Hid (Cur W1 c a len cap) := hC1
  clear hK1 hC1 x9 x0 hc hz
  go_wp2_with fail
  go_ret
  exact ⟨⟨z, HZ.out, rfl⟩, HC1.out, HK.out⟩

/-- The cursor behind a store into a newer block; what is kept behind new memory. -/
theorem Cur.far {W : World} {c : Nat} {a : Option Addr} {len cap : Nat} (h : Cur W c a len cap) {b o : Nat} (hb : c < b) (v : Value) : Cur (W.setCell ⟨b, o, none⟩ v) c a len cap :=
  h.keep ((Below.refl _ W).setCell (by show c + 1 ≤ b; omega) _)
theorem Cur.more {W : World} {c : Nat} {a : Option Addr} {len cap : Nat} (h : Cur W c a len cap) (x : Obj) : Cur (W.alloc x) c a len cap := h.grew ((Below.refl _ W).alloc (Nat.le_refl _) _)
theorem Kp.more {c : Nat} {W X : World} (h : Kp c W X) (hc : c < W.heap.size) (x : Obj) : Kp c W (X.alloc x) :=
  h.trans (Kp.of_below (Nat.lt_of_lt_of_le hc h.big) ((Below.refl _ X).alloc (Nat.le_refl _) _))
theorem Kp.setNew {c : Nat} {W X : World} (h : Kp c W X) (hc : c < W.heap.size) {b o : Nat} (hb : W.heap.size ≤ b) (v : Value) : Kp c W (X.setCell ⟨b, o, none⟩ v) :=
  ⟨h.low.setCell (by show c ≤ b; omega) _, by simpa using h.big, fun d q hd hq => (World.cell?_setCell_far _ _ _ _ (by show b ≠ d; omega)).trans (h.cel d q hd hq), fun d q hd hq => by simpa [go_sem] using h.frz d q hd hq, fun d hd hq => (Below.heap_setCell X ⟨b, o, none⟩ v d (by show d ≠ b; omega)).trans (h.blk d hd hq)⟩

end Go.Proofs.YtadhapggcifldaaGreatDoor
namespace Go.Proofs.YtadhapggcifldaaGreatDoor
open Go.RowKit

set_option maxHeartbeats 1000000 in
theorem l1Odd_any (c : Nat) (a : Option Addr) (len cap : Nat) (w : World) (hC : Cur w c a len cap) :
    Calls Tryz.prog 58 #[.pointer (some ⟨c, 0, none⟩)] w fun e w' => (∃ x : Int, I64 x ∧ e = .returned (.int .i64 x)) ∧ Cur w' c a len cap ∧ Kp c w w' := by
  have HC : Hid (Cur w c a len cap) := hC
  have hlt := hC.lt
  clear hC
  go_enter Tryz.func58, Tryz.ntmps58
  go_wp2_with fail
  refine (l1Int_any I64 c a len cap (w.heap.size) 14 _ (by repeat (first | with_reducible exact HC.out | (with_reducible refine Cur.more ?_ _) | (with_reducible refine Cur.drew ?_) | (with_reducible refine Cur.far ?_ (by omega) _))) (by omega) (by omega) (by first | omega | (simp; done) | (simp; omega)) (by omega) (fun j hj => match j, hj with | 0, _ => ⟨(-1), by unfold I64; omega, by simp [go_sem]⟩ | 1, _ => ⟨0, by unfold I64; omega, by simp [go_sem]⟩ | 2, _ => ⟨1, by unfold I64; omega, by simp [go_sem]⟩ | 3, _ => ⟨2, by unfold I64; omega, by simp [go_sem]⟩ | 4, _ => ⟨255, by unfold I64; omega, by simp [go_sem]⟩ | 5, _ => ⟨256, by unfold I64; omega, by simp [go_sem]⟩ | 6, _ => ⟨65535, by unfold I64; omega, by simp [go_sem]⟩ | 7, _ => ⟨2147483647, by unfold I64; omega, by simp [go_sem]⟩ | 8, _ => ⟨2147483648, by unfold I64; omega, by simp [go_sem]⟩ | 9, _ => ⟨4294967295, by unfold I64; omega, by simp [go_sem]⟩ | 10, _ => ⟨4294967296, by unfold I64; omega, by simp [go_sem]⟩ | 11, _ => ⟨(-2147483648), by unfold I64; omega, by simp [go_sem]⟩ | 12, _ => ⟨9223372036854775807, by unfold I64; omega, by simp [go_sem]⟩ | 13, _ => ⟨(-9223372036854775808), by unfold I64; omega, by simp [go_sem]⟩ | (j + 14), h => absurd h (by omega))).mono ?_
  rintro e w1 ⟨⟨x1, x1b, rfl⟩, hC1, hK1⟩
  have HC1 : Hid (Cur w1 c a len cap) := hC1
  have HK1 : Hid (Kp c _ w1) := hK1
  have hz1 := hK1.big
  try simp at hz1
  clear hC1 hK1
  go_wp2_with fail
  go_ret
  refine ⟨⟨x1, x1b, rfl⟩, HC1.out, ?_⟩
  repeat (first | with_reducible exact Kp.refl _ _ | (with_reducible refine Kp.trans ?_ HK1.out) | (with_reducible refine Kp.more ?_ (by omega) _) | (with_reducible refine Kp.setNew ?_ (by omega) (by omega) _))

set_option maxHeartbeats 1000000 in
theorem l1Draw_any (c : Nat) (a : Option Addr) (len cap : Nat) (w : World) (hC : Cur w c a len cap) :
    Calls Tryz.prog 55 #[.pointer (some ⟨c, 0, none⟩)] w fun e w' => (∃ (S : Bool) (X Y : Int), (okB S X Y = true ∧ I64 X ∧ I64 Y) ∧ e = .returned (.agg #[.bool S, .int .i64 X, .int .i64 Y])) ∧ Cur w' c a len cap ∧ Kp c w w' := by
  have HC : Hid (Cur w c a len cap) := hC
  have hlt := hC.lt
  clear hC
  go_enter Tryz.func55, Tryz.ntmps55
  go_wp2_with fail
  refine (l1Once_any c a len cap 2 _ (by repeat (first | with_reducible exact HC.out | (with_reducible refine Cur.more ?_ _) | (with_reducible refine Cur.drew ?_) | (with_reducible refine Cur.far ?_ (by omega) _)))).mono ?_
  rintro e w1 ⟨⟨B1, rfl⟩, hC1, hK1⟩
  have HC1 : Hid (Cur w1 c a len cap) := hC1
  have HK1 : Hid (Kp c _ w1) := hK1
  have hz1 := hK1.big
  try simp at hz1
  clear hC1 hK1
  have d10 := fun o => HK1.out.cel (w.heap.size) o (by first | omega | (simp; done) | (simp; omega)) (by omega)
  have g10 := fun o => HK1.out.frz (w.heap.size) o (by first | omega | (simp; done) | (simp; omega)) (by omega)
  have l10 : w.heap.size < w1.heap.size := by omega
  cases B1
  · go_wp2_with fail
    refine (l1Odd_any c a len cap _ (by repeat (first | with_reducible exact HC1.out | (with_reducible refine Cur.more ?_ _) | (with_reducible refine Cur.drew ?_) | (with_reducible refine Cur.far ?_ (by omega) _)))).mono ?_
    rintro e w2 ⟨⟨x2, x2b, rfl⟩, hC2, hK2⟩
    have HC2 : Hid (Cur w2 c a len cap) := hC2
    have HK2 : Hid (Kp c _ w2) := hK2
    have hz2 := hK2.big
    try simp at hz2
    clear hC2 hK2
    have d20 := fun o => HK2.out.cel (w.heap.size) o (by first | omega | (simp; done) | (simp; omega)) (by omega)
    have g20 := fun o => HK2.out.frz (w.heap.size) o (by first | omega | (simp; done) | (simp; omega)) (by omega)
    have l20 : w.heap.size < w2.heap.size := by omega
    have x2c : -9223372036854775808 ≤ x2 ∧ x2 ≤ 9223372036854775807 := x2b
    clear x2b
    go_wp2_with fail
    refine (l1Int_any I64 c a len cap (w2.heap.size) 7 _ (by repeat (first | with_reducible exact HC2.out | (with_reducible refine Cur.more ?_ _) | (with_reducible refine Cur.drew ?_) | (with_reducible refine Cur.far ?_ (by omega) _))) (by omega) (by omega) (by first | omega | (simp; done) | (simp; omega)) (by omega) (fun j hj => match j, hj with | 0, _ => ⟨0, by unfold I64; omega, by simp [go_sem]⟩ | 1, _ => ⟨2306139568115548160, by unfold I64; omega, by simp [go_sem]⟩ | 2, _ => ⟨(-108086391056891904), by unfold I64; omega, by simp [go_sem]⟩ | 3, _ => ⟨(-1), by unfold I64; omega, by simp [go_sem]⟩ | 4, _ => ⟨1, by unfold I64; omega, by simp [go_sem]⟩ | 5, _ => ⟨65536, by unfold I64; omega, by simp [go_sem]⟩ | 6, _ => ⟨x2, by unfold I64; omega, by simp [go_sem]⟩ | (j + 7), h => absurd h (by omega))).mono ?_
    rintro e w3 ⟨⟨x3, x3b, rfl⟩, hC3, hK3⟩
    have HC3 : Hid (Cur w3 c a len cap) := hC3
    have HK3 : Hid (Kp c _ w3) := hK3
    have hz3 := hK3.big
    try simp at hz3
    clear hC3 hK3
    have d30 := fun o => HK3.out.cel (w.heap.size) o (by first | omega | (simp; done) | (simp; omega)) (by omega)
    have g30 := fun o => HK3.out.frz (w.heap.size) o (by first | omega | (simp; done) | (simp; omega)) (by omega)
    have l30 : w.heap.size < w3.heap.size := by omega
    have x3c : -9223372036854775808 ≤ x3 ∧ x3 ≤ 9223372036854775807 := x3b
    clear x3b
    go_wp2_with fail
    refine (l1Below_any c a len cap 70000 _ (by repeat (first | with_reducible exact HC3.out | (with_reducible refine Cur.more ?_ _) | (with_reducible refine Cur.drew ?_) | (with_reducible refine Cur.far ?_ (by omega) _)))).mono ?_
    rintro e w4 ⟨⟨x4, x40, x49, rfl⟩, hC4, hK4⟩
    have HC4 : Hid (Cur w4 c a len cap) := hC4
    have HK4 : Hid (Kp c _ w4) := hK4
    have hz4 := hK4.big
    try simp at hz4
    clear hC4 hK4
    have d40 := fun o => HK4.out.cel (w.heap.size) o (by first | omega | (simp; done) | (simp; omega)) (by omega)
    have g40 := fun o => HK4.out.frz (w.heap.size) o (by first | omega | (simp; done) | (simp; omega)) (by omega)
    have l40 : w.heap.size < w4.heap.size := by omega
    have x48 := x49 (by omega)
    clear x49
    go_wp2_with fail
    refine (l1Odd_any c a len cap _ (by repeat (first | with_reducible exact HC4.out | (with_reducible refine Cur.more ?_ _) | (with_reducible refine Cur.drew ?_) | (with_reducible refine Cur.far ?_ (by omega) _)))).mono ?_
    rintro e w5 ⟨⟨x5, x5b, rfl⟩, hC5, hK5⟩
    have HC5 : Hid (Cur w5 c a len cap) := hC5
    have HK5 : Hid (Kp c _ w5) := hK5
    have hz5 := hK5.big
    try simp at hz5
    clear hC5 hK5
    have d50 := fun o => HK5.out.cel (w.heap.size) o (by first | omega | (simp; done) | (simp; omega)) (by omega)
    have g50 := fun o => HK5.out.frz (w.heap.size) o (by first | omega | (simp; done) | (simp; omega)) (by omega)
    have l50 : w.heap.size < w5.heap.size := by omega
    have x5c : -9223372036854775808 ≤ x5 ∧ x5 ≤ 9223372036854775807 := x5b
    clear x5b
    go_wp2_with fail
    refine (l1Int_any I64 c a len cap (w5.heap.size) 7 _ (by repeat (first | with_reducible exact HC5.out | (with_reducible refine Cur.more ?_ _) | (with_reducible refine Cur.drew ?_) | (with_reducible refine Cur.far ?_ (by omega) _))) (by omega) (by omega) (by first | omega | (simp; done) | (simp; omega)) (by omega) (fun j hj => match j, hj with | 0, _ => ⟨0, by unfold I64; omega, by simp [go_sem]⟩ | 1, _ => ⟨1, by unfold I64; omega, by simp [go_sem]⟩ | 2, _ => ⟨(-1), by unfold I64; omega, by simp [go_sem]⟩ | 3, _ => ⟨65536, by unfold I64; omega, by simp [go_sem]⟩ | 4, _ => ⟨4294967296, by unfold I64; omega, by simp [go_sem]⟩ | 5, _ => ⟨x4, by unfold I64; omega, by simp [go_sem]⟩ | 6, _ => ⟨x5, by unfold I64; omega, by simp [go_sem]⟩ | (j + 7), h => absurd h (by omega))).mono ?_
    rintro e w6 ⟨⟨x6, x6b, rfl⟩, hC6, hK6⟩
    have HC6 : Hid (Cur w6 c a len cap) := hC6
    have HK6 : Hid (Kp c _ w6) := hK6
    have hz6 := hK6.big
    try simp at hz6
    clear hC6 hK6
    have d60 := fun o => HK6.out.cel (w.heap.size) o (by first | omega | (simp; done) | (simp; omega)) (by omega)
    have g60 := fun o => HK6.out.frz (w.heap.size) o (by first | omega | (simp; done) | (simp; omega)) (by omega)
    have l60 : w.heap.size < w6.heap.size := by omega
    have HX : Hid (I64 x6) := x6b
    clear x6b
    go_wp2_with fail
    refine bodyPost_ret (v := .agg #[.bool true, .int .i64 x3, .int .i64 x6]) (by simp [results, Tryz.results55, go_sem, d60, d50, d40, d30, d20, d10, l20, l50, l60]) rfl ⟨⟨true, x3, x6, ⟨okB_t _ _, x3c, HX.out⟩, rfl⟩, ?_, ?_⟩
    · exact (by repeat (first | with_reducible exact HC6.out | (with_reducible refine Cur.more ?_ _) | (with_reducible refine Cur.drew ?_) | (with_reducible refine Cur.far ?_ (by omega) _)))
    · repeat (first | with_reducible exact Kp.refl _ _ | (with_reducible refine Kp.trans ?_ HK6.out) | (with_reducible refine Kp.trans ?_ HK5.out) | (with_reducible refine Kp.trans ?_ HK4.out) | (with_reducible refine Kp.trans ?_ HK3.out) | (with_reducible refine Kp.trans ?_ HK2.out) | (with_reducible refine Kp.trans ?_ HK1.out) | (with_reducible refine Kp.more ?_ (by omega) _) | (with_reducible refine Kp.setNew ?_ (by omega) (by omega) _))
  · go_wp2_with fail
    refine (l1Below_any c a len cap 300 _ (by repeat (first | with_reducible exact HC1.out | (with_reducible refine Cur.more ?_ _) | (with_reducible refine Cur.drew ?_) | (with_reducible refine Cur.far ?_ (by omega) _)))).mono ?_
    rintro e w2 ⟨⟨x2, x20, x29, rfl⟩, hC2, hK2⟩
    have HC2 : Hid (Cur w2 c a len cap) := hC2
    have HK2 : Hid (Kp c _ w2) := hK2
    have hz2 := hK2.big
    try simp at hz2
    clear hC2 hK2
    have d20 := fun o => HK2.out.cel (w.heap.size) o (by first | omega | (simp; done) | (simp; omega)) (by omega)
    have g20 := fun o => HK2.out.frz (w.heap.size) o (by first | omega | (simp; done) | (simp; omega)) (by omega)
    have l20 : w.heap.size < w2.heap.size := by omega
    have x28 := x29 (by omega)
    clear x29
    go_wp2_with fail
    refine (l1Below_any c a len cap 65536 _ (by repeat (first | with_reducible exact HC2.out | (with_reducible refine Cur.more ?_ _) | (with_reducible refine Cur.drew ?_) | (with_reducible refine Cur.far ?_ (by omega) _)))).mono ?_
    rintro e w3 ⟨⟨x3, x30, x39, rfl⟩, hC3, hK3⟩
    have HC3 : Hid (Cur w3 c a len cap) := hC3
    have HK3 : Hid (Kp c _ w3) := hK3
    have hz3 := hK3.big
    try simp at hz3
    clear hC3 hK3
    have d30 := fun o => HK3.out.cel (w.heap.size) o (by first | omega | (simp; done) | (simp; omega)) (by omega)
    have g30 := fun o => HK3.out.frz (w.heap.size) o (by first | omega | (simp; done) | (simp; omega)) (by omega)
    have l30 : w.heap.size < w3.heap.size := by omega
    have x38 := x39 (by omega)
    clear x39
    go_wp2_with fail
    refine (l1Below_any c a len cap 20 _ (by repeat (first | with_reducible exact HC3.out | (with_reducible refine Cur.more ?_ _) | (with_reducible refine Cur.drew ?_) | (with_reducible refine Cur.far ?_ (by omega) _)))).mono ?_
    rintro e w4 ⟨⟨x4, x40, x49, rfl⟩, hC4, hK4⟩
    have HC4 : Hid (Cur w4 c a len cap) := hC4
    have HK4 : Hid (Kp c _ w4) := hK4
    have hz4 := hK4.big
    try simp at hz4
    clear hC4 hK4
    have d40 := fun o => HK4.out.cel (w.heap.size) o (by first | omega | (simp; done) | (simp; omega)) (by omega)
    have g40 := fun o => HK4.out.frz (w.heap.size) o (by first | omega | (simp; done) | (simp; omega)) (by omega)
    have l40 : w.heap.size < w4.heap.size := by omega
    have x48 := x49 (by omega)
    clear x49
    go_wp2_with fail
    refine (l1Int_any (fun z => 0 ≤ z ∧ z ≤ 4294967295) c a len cap (w4.heap.size) 7 _ (by repeat (first | with_reducible exact HC4.out | (with_reducible refine Cur.more ?_ _) | (with_reducible refine Cur.drew ?_) | (with_reducible refine Cur.far ?_ (by omega) _))) (by omega) (by omega) (by first | omega | (simp; done) | (simp; omega)) (by omega) (fun j hj => match j, hj with | 0, _ => ⟨0, by omega, by simp [go_sem]⟩ | 1, _ => ⟨1, by omega, by simp [go_sem]⟩ | 2, _ => ⟨4294967295, by omega, by simp [go_sem]⟩ | 3, _ => ⟨167772160, by omega, by simp [go_sem]⟩ | 4, _ => ⟨(167772160 + x2), by omega, by simp [go_sem]⟩ | 5, _ => ⟨(3232235520 + x3), by omega, by simp [go_sem]⟩ | 6, _ => ⟨(4294967295 - x4), by omega, by simp [go_sem]⟩ | (j + 7), h => absurd h (by omega))).mono ?_
    rintro e w5 ⟨⟨x5, x5b, rfl⟩, hC5, hK5⟩
    have HC5 : Hid (Cur w5 c a len cap) := hC5
    have HK5 : Hid (Kp c _ w5) := hK5
    have hz5 := hK5.big
    try simp at hz5
    clear hC5 hK5
    have d50 := fun o => HK5.out.cel (w.heap.size) o (by first | omega | (simp; done) | (simp; omega)) (by omega)
    have g50 := fun o => HK5.out.frz (w.heap.size) o (by first | omega | (simp; done) | (simp; omega)) (by omega)
    have l50 : w.heap.size < w5.heap.size := by omega
    have x5c : 0 ≤ x5 ∧ x5 ≤ 4294967295 := x5b
    clear x5b
    go_wp2_with fail
    refine bodyPost_ret (v := .agg #[.bool false, .int .i64 0, .int .i64 x5]) (by simp [results, Tryz.results55, go_sem, d50, d40, d30, d20, d10, l40]) rfl ⟨⟨false, 0, x5, ⟨okB_yes x5 x5c.1 x5c.2, by unfold I64; omega, by unfold I64; omega⟩, rfl⟩, ?_, ?_⟩
    · exact (by repeat (first | with_reducible exact HC5.out | (with_reducible refine Cur.more ?_ _) | (with_reducible refine Cur.drew ?_) | (with_reducible refine Cur.far ?_ (by omega) _)))
    · repeat (first | with_reducible exact Kp.refl _ _ | (with_reducible refine Kp.trans ?_ HK5.out) | (with_reducible refine Kp.trans ?_ HK4.out) | (with_reducible refine Kp.trans ?_ HK3.out) | (with_reducible refine Kp.trans ?_ HK2.out) | (with_reducible refine Kp.trans ?_ HK1.out) | (with_reducible refine Kp.more ?_ (by omega) _) | (with_reducible refine Kp.setNew ?_ (by omega) (by omega) _))

end Go.Proofs.YtadhapggcifldaaGreatDoor
namespace Go.Proofs.YtadhapggcifldaaGreatDoor
open Go.RowKit

set_option maxHeartbeats 1000000 in
theorem l1DrawAny_any (c : Nat) (a : Option Addr) (len cap : Nat) (w : World) (hC : Cur w c a len cap) :
    Calls Tryz.prog 39 #[.pointer (some ⟨c, 0, none⟩)] w fun e w' => (∃ (S : Bool) (X Y : Int), (I64 X ∧ I64 Y) ∧ e = .returned (.agg #[.bool S, .int .i64 X, .int .i64 Y])) ∧ Cur w' c a len cap ∧ Kp c w w' := by
  have HC : Hid (Cur w c a len cap) := hC
  have hlt := hC.lt
  clear hC
  go_enter Tryz.func39, Tryz.ntmps39
  go_wp2_with fail
  refine (l1Draw_any c a len cap _ (by repeat (first | with_reducible exact HC.out | (with_reducible refine Cur.more ?_ _) | (with_reducible refine Cur.drew ?_) | (with_reducible refine Cur.far ?_ (by omega) _)))).mono ?_
  rintro e w1 ⟨⟨S, X, Y, ⟨_, bX, bY⟩, rfl⟩, hC1, hK1⟩
  have HC1 : Hid (Cur w1 c a len cap) := hC1
  have HK1 : Hid (Kp c _ w1) := hK1
  have hz1 := hK1.big
  try simp at hz1
  clear hC1 hK1
  have d10 := fun o => HK1.out.cel (w.heap.size) o (by first | omega | (simp; done) | (simp; omega)) (by omega)
  have g10 := fun o => HK1.out.frz (w.heap.size) o (by first | omega | (simp; done) | (simp; omega)) (by omega)
  have l10 : w.heap.size < w1.heap.size := by omega
  have HX : Hid (I64 X) := bX
  have HY : Hid (I64 Y) := bY
  clear bX bY
  go_wp2_with fail
  refine (l1Below_any c a len cap 16 _ (by repeat (first | with_reducible exact HC1.out | (with_reducible refine Cur.more ?_ _) | (with_reducible refine Cur.drew ?_) | (with_reducible refine Cur.far ?_ (by omega) _)))).mono ?_
  rintro e w2 ⟨⟨x2, x20, x29, rfl⟩, hC2, hK2⟩
  have HC2 : Hid (Cur w2 c a len cap) := hC2
  have HK2 : Hid (Kp c _ w2) := hK2
  have hz2 := hK2.big
  try simp at hz2
  clear hC2 hK2
  have d20 := fun o => HK2.out.cel (w.heap.size) o (by first | omega | (simp; done) | (simp; omega)) (by omega)
  have g20 := fun o => HK2.out.frz (w.heap.size) o (by first | omega | (simp; done) | (simp; omega)) (by omega)
  have l20 : w.heap.size < w2.heap.size := by omega
  have d21 := fun o => HK2.out.cel (w1.heap.size) o (by first | omega | (simp; done) | (simp; omega)) (by omega)
  have g21 := fun o => HK2.out.frz (w1.heap.size) o (by first | omega | (simp; done) | (simp; omega)) (by omega)
  have l21 : w1.heap.size < w2.heap.size := by omega
  have x28 := x29 (by omega)
  clear x29
  by_cases z0 : x2 = 0
  · subst z0
    go_wp2_with fail
    refine bodyPost_ret (v := .agg #[.bool (!S), .int .i64 X, .int .i64 Y]) (by simp [results, Tryz.results39, go_sem, d20, d10, l10]) rfl ⟨⟨!S, X, Y, ⟨HX.out, HY.out⟩, rfl⟩, ?_, ?_⟩
    · exact (by repeat (first | with_reducible exact HC2.out | (with_reducible refine Cur.more ?_ _) | (with_reducible refine Cur.drew ?_) | (with_reducible refine Cur.far ?_ (by omega) _)))
    · repeat (first | with_reducible exact Kp.refl _ _ | (with_reducible refine Kp.trans ?_ HK2.out) | (with_reducible refine Kp.trans ?_ HK1.out) | (with_reducible refine Kp.more ?_ (by omega) _) | (with_reducible refine Kp.setNew ?_ (by omega) (by omega) _))
  · have y0 : (x2 == 0) = false := by rw [beq_eq_false_iff_ne]; exact z0
    by_cases z1 : x2 = 1
    · subst z1
      go_wp2_with fail
      refine (l1Odd_any c a len cap _ (by repeat (first | with_reducible exact HC2.out | (with_reducible refine Cur.more ?_ _) | (with_reducible refine Cur.drew ?_) | (with_reducible refine Cur.far ?_ (by omega) _)))).mono ?_
      rintro e w3 ⟨⟨x3, x3b, rfl⟩, hC3, hK3⟩
      have HC3 : Hid (Cur w3 c a len cap) := hC3
      have HK3 : Hid (Kp c _ w3) := hK3
      have hz3 := hK3.big
      try simp at hz3
      clear hC3 hK3
      have d30 := fun o => HK3.out.cel (w.heap.size) o (by first | omega | (simp; done) | (simp; omega)) (by omega)
      have g30 := fun o => HK3.out.frz (w.heap.size) o (by first | omega | (simp; done) | (simp; omega)) (by omega)
      have l30 : w.heap.size < w3.heap.size := by omega
      have d31 := fun o => HK3.out.cel (w1.heap.size) o (by first | omega | (simp; done) | (simp; omega)) (by omega)
      have g31 := fun o => HK3.out.frz (w1.heap.size) o (by first | omega | (simp; done) | (simp; omega)) (by omega)
      have l31 : w1.heap.size < w3.heap.size := by omega
      have x3c : -9223372036854775808 ≤ x3 ∧ x3 ≤ 9223372036854775807 := x3b
      clear x3b
      have HO : Hid (I64 x3) := x3c
      clear x3c
      go_wp2_with fail
      refine bodyPost_ret (v := .agg #[.bool S, .int .i64 X, .int .i64 x3]) (by simp [results, Tryz.results39, go_sem, d30, d20, d10, l10]) rfl ⟨⟨S, X, x3, ⟨HX.out, HO.out⟩, rfl⟩, ?_, ?_⟩
      · exact (by repeat (first | with_reducible exact HC3.out | (with_reducible refine Cur.more ?_ _) | (with_reducible refine Cur.drew ?_) | (with_reducible refine Cur.far ?_ (by omega) _)))
      · repeat (first | with_reducible exact Kp.refl _ _ | (with_reducible refine Kp.trans ?_ HK3.out) | (with_reducible refine Kp.trans ?_ HK2.out) | (with_reducible refine Kp.trans ?_ HK1.out) | (with_reducible refine Kp.more ?_ (by omega) _) | (with_reducible refine Kp.setNew ?_ (by omega) (by omega) _))
    · have y1 : (x2 == 1) = false := by rw [beq_eq_false_iff_ne]; exact z1
      go_wp2_with fail
      refine bodyPost_ret (v := .agg #[.bool S, .int .i64 X, .int .i64 Y]) (by simp [results, Tryz.results39, go_sem, d20, d10, l10]) rfl ⟨⟨S, X, Y, ⟨HX.out, HY.out⟩, rfl⟩, ?_, ?_⟩
      · exact (by repeat (first | with_reducible exact HC2.out | (with_reducible refine Cur.more ?_ _) | (with_reducible refine Cur.drew ?_) | (with_reducible refine Cur.far ?_ (by omega) _)))
      · repeat (first | with_reducible exact Kp.refl _ _ | (with_reducible refine Kp.trans ?_ HK2.out) | (with_reducible refine Kp.trans ?_ HK1.out) | (with_reducible refine Kp.more ?_ (by omega) _) | (with_reducible refine Kp.setNew ?_ (by omega) (by omega) _))

theorem bvW {x : Int} (h : I64 x) : (BitVec.ofInt 64 x).toInt = x := by
  unfold I64 at h
  rw [BitVec.toInt_ofInt, Int.bmod_def]
  omega
theorem bvI (x : BitVec 64) : I64 x.toInt := by
  have h := x.isLt
  unfold I64
  rw [BitVec.toInt_eq_toNat_cond]
  split <;> omega

end Go.Proofs.YtadhapggcifldaaGreatDoor
namespace Go.Proofs.YtadhapggcifldaaGreatDoor
open Go.RowKit

set_option maxHeartbeats 1000000 in
theorem sPrefixOf_yes (s : Bool) (H L : BitVec 64) (b : Int) (n : Nat) (hok : okB s H.toInt L.toInt = true) (hb : 0 ≤ b) (hn : b = (wd s : Int) - (n : Int)) (w : World) :
    Calls Tryz.prog 56 #[.agg #[.bool s, .int .i64 H.toInt, .int .i64 L.toInt], .int .i64 b] w fun e w' => e = .returned (.tuple #[.agg #[.bool s, .int .i64 (cH n H).toInt, .int .i64 (cL n L).toInt, .int .i64 (b)], .bool true]) ∧ Below w.heap.size w w' := by
  have hin : decide (0 ≤ b ∧ b ≤ (wd s : Int)) = true := decide_eq_true (by omega)
  have HM : Hid (∀ w, _) := l2Mask_any s H L n b hok (by omega) hn
  generalize cH n H = C1 at HM ⊢
  generalize cL n L = C2 at HM ⊢
  have HK : Hid (∀ w, _) := sAddrOk_any s H.toInt L.toInt
  rw [hok] at HK
  clear hok
  have HI : Hid (∀ w, _) := l1In_any b 0 (wd s)
  rw [hin] at HI
  clear hin
  clear hb hn
  go_enter Tryz.func56, Tryz.ntmps56
  go_wp2_with fail
  refine (HK.out _).mono ?_
  rintro e w1 ⟨rfl, hb1⟩
  have hz1 := hb1.size
  try simp at hz1
  have f10 : w.heap.size < w1.heap.size := by omega
  have f11 : w.heap.size + 1 < w1.heap.size := by omega
  refine olds_k (w.heap.size + 2) hb1 ?_ ?_
  · first | omega | (simp; omega) | (simp; done)
  intro hc1 hf1
  go_wp2_with fail
  refine (l2Width_any s H.toInt L.toInt _).mono ?_
  rintro e w2 ⟨rfl, hb2⟩
  have hz2 := hb2.size
  try simp at hz2
  have f20 : w.heap.size < w2.heap.size := by omega
  have f21 : w.heap.size + 1 < w2.heap.size := by omega
  refine olds_k (w.heap.size + 2) hb2 ?_ ?_
  · first | omega | (simp; omega) | (simp; done)
  intro hc2 hf2
  go_wp2_with fail
  refine (HI.out _).mono ?_
  rintro e w3 ⟨rfl, rfl⟩
  go_wp2_with fail
  refine (HM.out _).mono ?_
  rintro e w4 ⟨rfl, hb4⟩
  have hz4 := hb4.size
  try simp at hz4
  have f40 : w.heap.size < w4.heap.size := by omega
  have f41 : w.heap.size + 1 < w4.heap.size := by omega
  refine olds_k (w.heap.size + 2) hb4 ?_ ?_
  · first | omega | (simp; omega) | (simp; done)
  intro hc4 hf4
  go_wp2_with fail
  refine bodyPost_ret (v := .tuple #[.agg #[.bool s, .int .i64 C1.toInt, .int .i64 C2.toInt, .int .i64 (b)], .bool true]) (by simp [results, Tryz.results56, go_sem, hc1, hc2, hc4]) rfl ⟨rfl, ?_⟩
  repeat (first | with_reducible exact Below.refl _ _ | (with_reducible refine Below.drew ?_) | (with_reducible refine Below.alloc ?_ ?_ _; rotate_left; (focus (first | omega | (simp; omega) | (simp; done)))) | (with_reducible refine Below.setCell ?_ ?_ _; rotate_left; (focus (first | omega | (simp; omega) | (simp; done)))) | (with_reducible refine Below.trans ?_ (hb4.mono ?_); rotate_left; (focus (first | omega | (simp; omega) | (simp; done)))) | (with_reducible refine Below.trans ?_ (hb2.mono ?_); rotate_left; (focus (first | omega | (simp; omega) | (simp; done)))) | (with_reducible refine Below.trans ?_ (hb1.mono ?_); rotate_left; (focus (first | omega | (simp; omega) | (simp; done)))))

end Go.Proofs.YtadhapggcifldaaGreatDoor
namespace Go.Proofs.YtadhapggcifldaaGreatDoor
open Go.RowKit

/-- The specification's PrefixOf of a right address and bits of its width: some prefix of words of 64 bits, and true. -/
theorem sPrefixOf_some (s : Bool) (X Y b : Int) (hX : I64 X) (hY : I64 Y) (hok : okB s X Y = true) (hb : 0 ≤ b) (hb1 : b ≤ (wd s : Int)) :
    ∃ (U V : Int), (I64 U ∧ I64 V) ∧ ∀ w : World, Calls Tryz.prog 56 #[.agg #[.bool s, .int .i64 X, .int .i64 Y], .int .i64 b] w fun e w' => e = .returned (.tuple #[.agg #[.bool s, .int .i64 U, .int .i64 V, .int .i64 b], .bool true]) ∧ Below w.heap.size w w' := by
  have h := sPrefixOf_yes s (BitVec.ofInt 64 X) (BitVec.ofInt 64 Y) b ((wd s : Int) - b).toNat (by rw [bvW hX, bvW hY]; exact hok) hb (by omega)
  rw [bvW hX, bvW hY] at h
  exact ⟨_, _, ⟨bvI _, bvI _⟩, h⟩

set_option maxHeartbeats 1000000 in
theorem l2Draw_any (c : Nat) (a : Option Addr) (len cap : Nat) (w : World) (hC : Cur w c a len cap) :
    Calls Tryz.prog 37 #[.pointer (some ⟨c, 0, none⟩)] w fun e w' => (∃ (S : Bool) (X Y Z : Int), (I64 X ∧ I64 Y ∧ I64 Z) ∧ e = .returned (.agg #[.bool S, .int .i64 X, .int .i64 Y, .int .i64 Z])) ∧ Cur w' c a len cap ∧ Kp c w w' := by
  have HC : Hid (Cur w c a len cap) := hC
  have hlt := hC.lt
  clear hC
  go_enter Tryz.func37, Tryz.ntmps37
  go_wp2_with fail
  refine (l1Draw_any c a len cap _ (by repeat (first | with_reducible exact HC.out | (with_reducible refine Cur.more ?_ _) | (with_reducible refine Cur.drew ?_) | (with_reducible refine Cur.far ?_ (by omega) _)))).mono ?_
  rintro e w1 ⟨⟨S, X, Y, ⟨hok, bX, bY⟩, rfl⟩, hC1, hK1⟩
  have HC1 : Hid (Cur w1 c a len cap) := hC1
  have HK1 : Hid (Kp c _ w1) := hK1
  have hz1 := hK1.big
  try simp at hz1
  clear hC1 hK1
  have d10 := fun o => HK1.out.cel (w.heap.size) o (by first | omega | (simp; done) | (simp; omega)) (by omega)
  have g10 := fun o => HK1.out.frz (w.heap.size) o (by first | omega | (simp; done) | (simp; omega)) (by omega)
  have l10 : w.heap.size < w1.heap.size := by omega
  have HX : Hid (I64 X ∧ I64 Y ∧ okB S X Y = true) := ⟨bX, bY, hok⟩
  clear bX bY hok
  go_wp2_with fail
  refine (l1Int_any (fun z => 0 ≤ z ∧ z ≤ 32) c a len cap (w1.heap.size + 1) 9 _ (by repeat (first | with_reducible exact HC1.out | (with_reducible refine Cur.more ?_ _) | (with_reducible refine Cur.drew ?_) | (with_reducible refine Cur.far ?_ (by omega) _))) (by omega) (by omega) (by first | omega | (simp; done) | (simp; omega)) (by omega) (fun j hj => match j, hj with | 0, _ => ⟨24, by omega, by simp [go_sem]⟩ | 1, _ => ⟨26, by omega, by simp [go_sem]⟩ | 2, _ => ⟨28, by omega, by simp [go_sem]⟩ | 3, _ => ⟨30, by omega, by simp [go_sem]⟩ | 4, _ => ⟨32, by omega, by simp [go_sem]⟩ | 5, _ => ⟨8, by omega, by simp [go_sem]⟩ | 6, _ => ⟨16, by omega, by simp [go_sem]⟩ | 7, _ => ⟨0, by omega, by simp [go_sem]⟩ | 8, _ => ⟨31, by omega, by simp [go_sem]⟩ | (j + 9), h => absurd h (by omega))).mono ?_
  rintro e w2 ⟨⟨x2, x2b, rfl⟩, hC2, hK2⟩
  have HC2 : Hid (Cur w2 c a len cap) := hC2
  have HK2 : Hid (Kp c _ w2) := hK2
  have hz2 := hK2.big
  try simp at hz2
  clear hC2 hK2
  have d20 := fun o => HK2.out.cel (w.heap.size) o (by first | omega | (simp; done) | (simp; omega)) (by omega)
  have g20 := fun o => HK2.out.frz (w.heap.size) o (by first | omega | (simp; done) | (simp; omega)) (by omega)
  have l20 : w.heap.size < w2.heap.size := by omega
  have d21 := fun o => HK2.out.cel (w1.heap.size) o (by first | omega | (simp; done) | (simp; omega)) (by omega)
  have g21 := fun o => HK2.out.frz (w1.heap.size) o (by first | omega | (simp; done) | (simp; omega)) (by omega)
  have l21 : w1.heap.size < w2.heap.size := by omega
  have x2c : 0 ≤ x2 ∧ x2 ≤ 32 := x2b
  have q1 : w.heap.size < w1.heap.size + 1 := by omega
  clear x2b
  cases S
  · obtain ⟨U, V, bUV, hF⟩ := sPrefixOf_some _ X Y x2 HX.out.1 HX.out.2.1 HX.out.2.2 (by omega) (by show x2 ≤ (32 : Int); omega)
    have HF : Hid (∀ w : World, _) := hF
    have HUV : Hid (I64 U ∧ I64 V) := bUV
    clear hF bUV
    go_wp2_with fail
    refine (HF.out _).mono ?_
    rintro e w3 ⟨rfl, hb3⟩
    have HC3 : Hid (Cur w3 c a len cap) := Cur.grew (by repeat (first | with_reducible exact HC2.out | (with_reducible refine Cur.more ?_ _) | (with_reducible refine Cur.drew ?_) | (with_reducible refine Cur.far ?_ (by omega) _))) hb3
    have HK3 : Hid (Kp c _ w3) := Kp.of_below (by first | omega | (simp; omega)) hb3
    have hz3 := hb3.size
    try simp at hz3
    clear hb3
    have d30 := fun o => HK3.out.cel (w.heap.size) o (by first | omega | (simp; done) | (simp; omega)) (by omega)
    have g30 := fun o => HK3.out.frz (w.heap.size) o (by first | omega | (simp; done) | (simp; omega)) (by omega)
    have l30 : w.heap.size < w3.heap.size := by omega
    go_wp2_with fail
    refine bodyPost_ret (v := .agg #[.bool false, .int .i64 U, .int .i64 V, .int .i64 x2]) (by simp [results, Tryz.results37, go_sem, d30, d20, d10, l10, q1, l30]) rfl ⟨⟨false, U, V, x2, ⟨HUV.out.1, HUV.out.2, by unfold I64; omega⟩, rfl⟩, ?_, ?_⟩
    · exact (by repeat (first | with_reducible exact HC3.out | (with_reducible refine Cur.more ?_ _) | (with_reducible refine Cur.drew ?_) | (with_reducible refine Cur.far ?_ (by omega) _)))
    · repeat (first | with_reducible exact Kp.refl _ _ | (with_reducible refine Kp.trans ?_ HK3.out) | (with_reducible refine Kp.trans ?_ HK2.out) | (with_reducible refine Kp.trans ?_ HK1.out) | (with_reducible refine Kp.more ?_ (by omega) _) | (with_reducible refine Kp.setNew ?_ (by omega) (by omega) _))
  · go_wp2_with fail
    refine (l1Int_any (fun z => 0 ≤ z ∧ z ≤ 128) c a len cap (w2.heap.size) 11 _ (by repeat (first | with_reducible exact HC2.out | (with_reducible refine Cur.more ?_ _) | (with_reducible refine Cur.drew ?_) | (with_reducible refine Cur.far ?_ (by omega) _))) (by omega) (by omega) (by first | omega | (simp; done) | (simp; omega)) (by omega) (fun j hj => match j, hj with | 0, _ => ⟨64, by omega, by simp [go_sem]⟩ | 1, _ => ⟨48, by omega, by simp [go_sem]⟩ | 2, _ => ⟨112, by omega, by simp [go_sem]⟩ | 3, _ => ⟨120, by omega, by simp [go_sem]⟩ | 4, _ => ⟨126, by omega, by simp [go_sem]⟩ | 5, _ => ⟨127, by omega, by simp [go_sem]⟩ | 6, _ => ⟨128, by omega, by simp [go_sem]⟩ | 7, _ => ⟨0, by omega, by simp [go_sem]⟩ | 8, _ => ⟨63, by omega, by simp [go_sem]⟩ | 9, _ => ⟨65, by omega, by simp [go_sem]⟩ | 10, _ => ⟨1, by omega, by simp [go_sem]⟩ | (j + 11), h => absurd h (by omega))).mono ?_
    rintro e w4 ⟨⟨x4, x4b, rfl⟩, hC4, hK4⟩
    have HC4 : Hid (Cur w4 c a len cap) := hC4
    have HK4 : Hid (Kp c _ w4) := hK4
    have hz4 := hK4.big
    try simp at hz4
    clear hC4 hK4
    have d40 := fun o => HK4.out.cel (w.heap.size) o (by first | omega | (simp; done) | (simp; omega)) (by omega)
    have g40 := fun o => HK4.out.frz (w.heap.size) o (by first | omega | (simp; done) | (simp; omega)) (by omega)
    have l40 : w.heap.size < w4.heap.size := by omega
    have d41 := fun o => HK4.out.cel (w1.heap.size) o (by first | omega | (simp; done) | (simp; omega)) (by omega)
    have g41 := fun o => HK4.out.frz (w1.heap.size) o (by first | omega | (simp; done) | (simp; omega)) (by omega)
    have l41 : w1.heap.size < w4.heap.size := by omega
    have x4c : 0 ≤ x4 ∧ x4 ≤ 128 := x4b
    clear x4b
    obtain ⟨U, V, bUV, hF⟩ := sPrefixOf_some _ X Y x4 HX.out.1 HX.out.2.1 HX.out.2.2 (by omega) (by show x4 ≤ (128 : Int); omega)
    have HF : Hid (∀ w : World, _) := hF
    have HUV : Hid (I64 U ∧ I64 V) := bUV
    clear hF bUV
    go_wp2_with fail
    refine (HF.out _).mono ?_
    rintro e w5 ⟨rfl, hb5⟩
    have HC5 : Hid (Cur w5 c a len cap) := Cur.grew (by repeat (first | with_reducible exact HC4.out | (with_reducible refine Cur.more ?_ _) | (with_reducible refine Cur.drew ?_) | (with_reducible refine Cur.far ?_ (by omega) _))) hb5
    have HK5 : Hid (Kp c _ w5) := Kp.of_below (by first | omega | (simp; omega)) hb5
    have hz5 := hb5.size
    try simp at hz5
    clear hb5
    have d50 := fun o => HK5.out.cel (w.heap.size) o (by first | omega | (simp; done) | (simp; omega)) (by omega)
    have g50 := fun o => HK5.out.frz (w.heap.size) o (by first | omega | (simp; done) | (simp; omega)) (by omega)
    have l50 : w.heap.size < w5.heap.size := by omega
    go_wp2_with fail
    refine bodyPost_ret (v := .agg #[.bool true, .int .i64 U, .int .i64 V, .int .i64 x4]) (by simp [results, Tryz.results37, go_sem, d50, d40, d20, d10, l10, q1, l20, l50]) rfl ⟨⟨true, U, V, x4, ⟨HUV.out.1, HUV.out.2, by unfold I64; omega⟩, rfl⟩, ?_, ?_⟩
    · exact (by repeat (first | with_reducible exact HC5.out | (with_reducible refine Cur.more ?_ _) | (with_reducible refine Cur.drew ?_) | (with_reducible refine Cur.far ?_ (by omega) _)))
    · repeat (first | with_reducible exact Kp.refl _ _ | (with_reducible refine Kp.trans ?_ HK5.out) | (with_reducible refine Kp.trans ?_ HK4.out) | (with_reducible refine Kp.trans ?_ HK2.out) | (with_reducible refine Kp.trans ?_ HK1.out) | (with_reducible refine Kp.more ?_ (by omega) _) | (with_reducible refine Kp.setNew ?_ (by omega) (by omega) _))

end Go.Proofs.YtadhapggcifldaaGreatDoor
namespace Go.Proofs.YtadhapggcifldaaGreatDoor
open Go.RowKit

set_option maxHeartbeats 4000000 in
theorem l2DrawAny_any (c : Nat) (a : Option Addr) (len cap : Nat) (w : World) (hC : Cur w c a len cap) :
    Calls Tryz.prog 16 #[.pointer (some ⟨c, 0, none⟩)] w fun e w' => (∃ (S : Bool) (X Y Z : Int), (I64 X ∧ I64 Y ∧ I64 Z) ∧ e = .returned (.agg #[.bool S, .int .i64 X, .int .i64 Y, .int .i64 Z])) ∧ Cur w' c a len cap ∧ Kp c w w' := by
  have HC : Hid (Cur w c a len cap) := hC
  have hlt := hC.lt
  clear hC
  go_enter Tryz.func16, Tryz.ntmps16
  go_wp2_with fail
  refine (l2Draw_any c a len cap _ (by repeat (first | (with_reducible refine Cur.far ?_ (by omega) _) | with_reducible exact HC.out | (with_reducible refine Cur.more ?_ _)))).mono ?_
  rintro e w1 ⟨⟨S, X, Y, Z, bb, rfl⟩, hC1, hK1⟩
  have HC1 : Hid (Cur w1 c a len cap) := hC1
  have HK1 : Hid (Kp c _ w1) := hK1
  have hz1 := hK1.big
  try simp at hz1
  clear hC1 hK1
  have d10 := fun o => HK1.out.cel (w.heap.size) o (by first | omega | (simp; done) | (simp; omega)) (by omega)
  have g10 := fun o => HK1.out.frz (w.heap.size) o (by first | omega | (simp; done) | (simp; omega)) (by omega)
  have l10 : w.heap.size < w1.heap.size := by omega
  have HB : Hid (I64 X ∧ I64 Y ∧ I64 Z) := bb
  clear bb
  go_wp2_with fail
  refine (l1Below_any c a len cap 12 _ (by repeat (first | (with_reducible refine Cur.far ?_ (by omega) _) | with_reducible exact HC1.out | (with_reducible refine Cur.more ?_ _)))).mono ?_
  rintro e w2 ⟨⟨x2, x20, x29, rfl⟩, hC2, hK2⟩
  have HC2 : Hid (Cur w2 c a len cap) := hC2
  have HK2 : Hid (Kp c _ w2) := hK2
  have hz2 := hK2.big
  try simp at hz2
  clear hC2 hK2
  have d20 := fun o => HK2.out.cel (w.heap.size) o (by first | omega | (simp; done) | (simp; omega)) (by omega)
  have g20 := fun o => HK2.out.frz (w.heap.size) o (by first | omega | (simp; done) | (simp; omega)) (by omega)
  have l20 : w.heap.size < w2.heap.size := by omega
  have d21 := fun o => HK2.out.cel (w1.heap.size) o (by first | omega | (simp; done) | (simp; omega)) (by omega)
  have g21 := fun o => HK2.out.frz (w1.heap.size) o (by first | omega | (simp; done) | (simp; omega)) (by omega)
  have l21 : w1.heap.size < w2.heap.size := by omega
  have x28 := x29 (by omega)
  clear x29
  have n1 : w1.heap.size ≠ w.heap.size := by omega
  by_cases z0 : x2 = 0
  · subst z0
    go_wp2_with fail
    refine (l1DrawAny_any c a len cap _ (by repeat (first | (with_reducible refine Cur.far ?_ (by omega) _) | with_reducible exact HC2.out | (with_reducible refine Cur.more ?_ _)))).mono ?_
    rintro e w3 ⟨⟨T, U, V, bb, rfl⟩, hC3, hK3⟩
    have HC3 : Hid (Cur w3 c a len cap) := hC3
    have HK3 : Hid (Kp c _ w3) := hK3
    have hz3 := hK3.big
    try simp at hz3
    clear hC3 hK3
    have d30 := fun o => HK3.out.cel (w.heap.size) o (by first | omega | (simp; done) | (simp; omega)) (by omega)
    have g30 := fun o => HK3.out.frz (w.heap.size) o (by first | omega | (simp; done) | (simp; omega)) (by omega)
    have l30 : w.heap.size < w3.heap.size := by omega
    have d31 := fun o => HK3.out.cel (w1.heap.size) o (by first | omega | (simp; done) | (simp; omega)) (by omega)
    have g31 := fun o => HK3.out.frz (w1.heap.size) o (by first | omega | (simp; done) | (simp; omega)) (by omega)
    have l31 : w1.heap.size < w3.heap.size := by omega
    have HU : Hid (I64 U ∧ I64 V) := bb
    clear bb
    have q0 : w3.cell? ⟨w.heap.size, 0, none⟩ = some (.bool false) := by simp [d30, d20, d10, go_sem, l10]
    have f0 : w3.frozen? ⟨w.heap.size, 0, none⟩ = false := by simp [g30, g20, g10, go_sem, l10]
    have q1 : w3.cell? ⟨w.heap.size, 1, none⟩ = some (.int .i64 0) := by simp [d30, d20, d10, go_sem, l10]
    have f1 : w3.frozen? ⟨w.heap.size, 1, none⟩ = false := by simp [g30, g20, g10, go_sem, l10]
    have q2 : w3.cell? ⟨w.heap.size, 2, none⟩ = some (.int .i64 0) := by simp [d30, d20, d10, go_sem, l10]
    have f2 : w3.frozen? ⟨w.heap.size, 2, none⟩ = false := by simp [g30, g20, g10, go_sem, l10]
    have q3 : w3.cell? ⟨w.heap.size, 3, none⟩ = some (.int .i64 0) := by simp [d30, d20, d10, go_sem, l10]
    have f3 : w3.frozen? ⟨w.heap.size, 3, none⟩ = false := by simp [g30, g20, g10, go_sem, l10]
    have p0 : w3.cell? ⟨w1.heap.size, 0, none⟩ = some (.bool S) := by simp [d31, d21, go_sem]
    have h0 : w3.frozen? ⟨w1.heap.size, 0, none⟩ = false := by simp [g31, g21, go_sem]
    have p1 : w3.cell? ⟨w1.heap.size, 1, none⟩ = some (.int .i64 X) := by simp [d31, d21, go_sem]
    have h1 : w3.frozen? ⟨w1.heap.size, 1, none⟩ = false := by simp [g31, g21, go_sem]
    have p2 : w3.cell? ⟨w1.heap.size, 2, none⟩ = some (.int .i64 Y) := by simp [d31, d21, go_sem]
    have h2 : w3.frozen? ⟨w1.heap.size, 2, none⟩ = false := by simp [g31, g21, go_sem]
    have p3 : w3.cell? ⟨w1.heap.size, 3, none⟩ = some (.int .i64 Z) := by simp [d31, d21, go_sem]
    have h3 : w3.frozen? ⟨w1.heap.size, 3, none⟩ = false := by simp [g31, g21, go_sem]
    have n2 : w.heap.size ≠ w1.heap.size := by omega
    clear d10 d20 d21 d30 d31 g10 g20 g21 g30 g31
    go_wp2_with fail
    refine bodyPost_ret (v := .agg #[.bool T, .int .i64 U, .int .i64 V, .int .i64 Z]) (by simp [results, Tryz.results16, go_sem, q0, q1, q2, q3]) rfl ⟨⟨T, U, V, Z, ⟨HU.out.1, HU.out.2, HB.out.2.2⟩, rfl⟩, ?_, ?_⟩
    · exact (by repeat (first | (with_reducible refine Cur.far ?_ (by omega) _) | with_reducible exact HC3.out | (with_reducible refine Cur.more ?_ _)))
    · repeat (first | (with_reducible refine Kp.setNew ?_ (by omega) (by omega) _) | with_reducible exact Kp.refl _ _ | (with_reducible refine Kp.trans ?_ HK3.out) | (with_reducible refine Kp.trans ?_ HK2.out) | (with_reducible refine Kp.trans ?_ HK1.out) | (with_reducible refine Kp.more ?_ (by omega) _))
  · have y0 : (x2 == 0) = false := by rw [beq_eq_false_iff_ne]; exact z0
    by_cases z1 : x2 = 1
    · subst z1
      go_wp2_with fail
      refine (l1Int_any I64 c a len cap (w2.heap.size) 6 _ (by repeat (first | (with_reducible refine Cur.far ?_ (by omega) _) | with_reducible exact HC2.out | (with_reducible refine Cur.more ?_ _))) (by omega) (by omega) (by first | omega | (simp; done) | (simp; omega)) (by omega) (fun j hj => match j, hj with | 0, _ => ⟨(-1), by unfold I64; omega, by simp [go_sem]⟩ | 1, _ => ⟨0, by unfold I64; omega, by simp [go_sem]⟩ | 2, _ => ⟨32, by unfold I64; omega, by simp [go_sem]⟩ | 3, _ => ⟨33, by unfold I64; omega, by simp [go_sem]⟩ | 4, _ => ⟨128, by unfold I64; omega, by simp [go_sem]⟩ | 5, _ => ⟨129, by unfold I64; omega, by simp [go_sem]⟩ | (j + 6), h => absurd h (by omega))).mono ?_
      rintro e w3 ⟨⟨x3, x3b, rfl⟩, hC3, hK3⟩
      have HC3 : Hid (Cur w3 c a len cap) := hC3
      have HK3 : Hid (Kp c _ w3) := hK3
      have hz3 := hK3.big
      try simp at hz3
      clear hC3 hK3
      have d30 := fun o => HK3.out.cel (w.heap.size) o (by first | omega | (simp; done) | (simp; omega)) (by omega)
      have g30 := fun o => HK3.out.frz (w.heap.size) o (by first | omega | (simp; done) | (simp; omega)) (by omega)
      have l30 : w.heap.size < w3.heap.size := by omega
      have d31 := fun o => HK3.out.cel (w1.heap.size) o (by first | omega | (simp; done) | (simp; omega)) (by omega)
      have g31 := fun o => HK3.out.frz (w1.heap.size) o (by first | omega | (simp; done) | (simp; omega)) (by omega)
      have l31 : w1.heap.size < w3.heap.size := by omega
      have HO : Hid (I64 x3) := x3b
      clear x3b
      go_wp2_with fail
      refine bodyPost_ret (v := .agg #[.bool S, .int .i64 X, .int .i64 Y, .int .i64 x3]) (by simp [results, Tryz.results16, go_sem, d30, d20, d10, l10, l20]) rfl ⟨⟨S, X, Y, x3, ⟨HB.out.1, HB.out.2.1, HO.out⟩, rfl⟩, ?_, ?_⟩
      · exact (by repeat (first | (with_reducible refine Cur.far ?_ (by omega) _) | with_reducible exact HC3.out | (with_reducible refine Cur.more ?_ _)))
      · repeat (first | (with_reducible refine Kp.setNew ?_ (by omega) (by omega) _) | with_reducible exact Kp.refl _ _ | (with_reducible refine Kp.trans ?_ HK3.out) | (with_reducible refine Kp.trans ?_ HK2.out) | (with_reducible refine Kp.trans ?_ HK1.out) | (with_reducible refine Kp.more ?_ (by omega) _))
    · have y1 : (x2 == 1) = false := by rw [beq_eq_false_iff_ne]; exact z1
      go_wp2_with fail
      refine bodyPost_ret (v := .agg #[.bool S, .int .i64 X, .int .i64 Y, .int .i64 Z]) (by simp [results, Tryz.results16, go_sem, d20, d10, l10]) rfl ⟨⟨S, X, Y, Z, HB.out, rfl⟩, ?_, ?_⟩
      · exact (by repeat (first | (with_reducible refine Cur.far ?_ (by omega) _) | with_reducible exact HC2.out | (with_reducible refine Cur.more ?_ _)))
      · repeat (first | (with_reducible refine Kp.setNew ?_ (by omega) (by omega) _) | with_reducible exact Kp.refl _ _ | (with_reducible refine Kp.trans ?_ HK2.out) | (with_reducible refine Kp.trans ?_ HK1.out) | (with_reducible refine Kp.more ?_ (by omega) _))

end Go.Proofs.YtadhapggcifldaaGreatDoor
namespace Go.Proofs.YtadhapggcifldaaGreatDoor
open Go.RowKit

/-- The code's bytes, as memory holds them. -/
def Bytes (w : World) (a : Option Addr) (len : Nat) : Prop := ∀ j, j < len → ∃ p o v, a = some ⟨p, o, none⟩ ∧ p < w.heap.size ∧ w.cell? ⟨p, o + j, none⟩ = some (.int .u8 v) ∧ 0 ≤ v ∧ v < 256

set_option maxRecDepth 100000 in
set_option maxHeartbeats 1000000 in
theorem l1New_any (a : Option Addr) (len cap : Nat) (w : World) (hB : Bytes w a len) (hl : len ≤ 1048576) :
    Calls Tryz.prog 15 #[.slice a len cap] w fun e w' => e = .returned (.pointer (some ⟨w.heap.size, 0, none⟩)) ∧ Cur w' w.heap.size a len cap ∧ Below w.heap.size w w' ∧ w'.heap.size = w.heap.size + 1 := by
  have HB : Hid (Bytes w a len) := hB
  clear hB
  go_enter Tryz.func15, Tryz.ntmps15
  go_wp2
  go_loop [3, 4] (fun t3 t4 => ∃ (h : Int) (k : Nat), k ≤ len ∧ t3 = .int .i64 h ∧ t4 = .int .i64 k) (fun _ t4 => len - (intOf t4).toNat)
  case atStart => exact ⟨_, 0, Nat.zero_le _, rfl, rfl⟩
  case round =>
    obtain ⟨h, k, hk, rfl, rfl⟩ := hrel
    by_cases h1 : k < len
    · by_cases h2 : k < 4000
      · obtain ⟨p, o, v, rfl, hp, cv, v0, v9⟩ := HB.out k h1
        go_wp2
        go_round
        case rel => exact ⟨_, k + 1, by omega, rfl, by go_num⟩
        case measure => simp [intOf]; omega
      · go_wp2
        go_ret
        refine ⟨rfl, ⟨by simp [go_sem], ⟨0, Nat.zero_le _, by simp [go_sem]⟩, ⟨h, by simp [go_sem]⟩, by simp [go_sem], by simp [go_sem], fun j hj => ?_, hl⟩, (Below.refl _ w).alloc (Nat.le_refl _) _, by simp⟩
        obtain ⟨p, o, v, ha, hp, cv, v0, v9⟩ := HB.out j hj
        exact ⟨p, o, v, ha, hp, (((Below.refl _ w).alloc (Nat.le_refl _) _).cell hp).trans cv, v0, v9⟩
    · go_wp2
      go_ret
      refine ⟨rfl, ⟨by simp [go_sem], ⟨0, Nat.zero_le _, by simp [go_sem]⟩, ⟨h, by simp [go_sem]⟩, by simp [go_sem], by simp [go_sem], fun j hj => ?_, hl⟩, (Below.refl _ w).alloc (Nat.le_refl _) _, by simp⟩
      obtain ⟨p, o, v, ha, hp, cv, v0, v9⟩ := HB.out j hj
      exact ⟨p, o, v, ha, hp, (((Below.refl _ w).alloc (Nat.le_refl _) _).cell hp).trans cv, v0, v9⟩

end Go.Proofs.YtadhapggcifldaaGreatDoor
namespace Go.Proofs.YtadhapggcifldaaGreatDoor
open Go.RowKit

theorem eight {W : World} {q : Nat} {z0 z1 z2 z3 z4 z5 z6 z7 : Int} (c0 : W.cell? ⟨q, 0, none⟩ = some (.int .i64 z0)) (c1 : W.cell? ⟨q, 1, none⟩ = some (.int .i64 z1)) (c2 : W.cell? ⟨q, 2, none⟩ = some (.int .i64 z2)) (c3 : W.cell? ⟨q, 3, none⟩ = some (.int .i64 z3)) (c4 : W.cell? ⟨q, 4, none⟩ = some (.int .i64 z4)) (c5 : W.cell? ⟨q, 5, none⟩ = some (.int .i64 z5)) (c6 : W.cell? ⟨q, 6, none⟩ = some (.int .i64 z6)) (c7 : W.cell? ⟨q, 7, none⟩ = some (.int .i64 z7))
    (i0 : I64 z0) (i1 : I64 z1) (i2 : I64 z2) (i3 : I64 z3) (i4 : I64 z4) (i5 : I64 z5) (i6 : I64 z6) (i7 : I64 z7) (j : Nat) (hj : j < 8) : ∃ z, I64 z ∧ W.cell? ⟨q, j, none⟩ = some (.int .i64 z) := by
  have : j = 0 ∨ j = 1 ∨ j = 2 ∨ j = 3 ∨ j = 4 ∨ j = 5 ∨ j = 6 ∨ j = 7 := by omega
  rcases this with rfl | rfl | rfl | rfl | rfl | rfl | rfl | rfl
  · exact ⟨_, i0, c0⟩
  · exact ⟨_, i1, c1⟩
  · exact ⟨_, i2, c2⟩
  · exact ⟨_, i3, c3⟩
  · exact ⟨_, i4, c4⟩
  · exact ⟨_, i5, c5⟩
  · exact ⟨_, i6, c6⟩
  · exact ⟨_, i7, c7⟩

set_option maxRecDepth 10000 in
set_option maxHeartbeats 4000000 in
theorem drawNthOf_any (a : Option Addr) (len cap : Nat) (w : World) (hB : Bytes w a len) (hl : len ≤ 1048576) :
    Calls Tryz.prog 5 #[.slice a len cap] w fun e w' => (∃ (S : Bool) (X Y Z N : Int), (I64 X ∧ I64 Y ∧ I64 Z ∧ I64 N) ∧ e = .returned (.tuple #[.agg #[.bool S, .int .i64 X, .int .i64 Y, .int .i64 Z], .int .i64 N])) ∧ Below w.heap.size w w' := by
  have HB : Hid (Bytes (w.alloc (.cells #[.bool false, .int .i64 0, .int .i64 0, .int .i64 0] 27)) a len) := fun j hj => by
    obtain ⟨p, o, v, ha, hp, cv, v0, v9⟩ := hB j hj
    exact ⟨p, o, v, ha, by simp; omega, (((Below.refl _ w).alloc (Nat.le_refl _) _).cell hp).trans cv, v0, v9⟩
  clear hB
  go_enter Tryz.func5, Tryz.ntmps5
  go_wp2_with fail
  refine (l1New_any a len cap _ HB.out hl).mono ?_
  rintro e w1 ⟨rfl, hC1, hb1, hs1⟩
  have hC1' : Cur w1 (w.heap.size + 1) a len cap := by simpa using hC1
  have HC1 : Hid (Cur w1 (w.heap.size + 1) a len cap) := hC1'
  have hs : w1.heap.size = w.heap.size + 2 := by simpa using hs1
  obtain ⟨hc1, hf1⟩ := olds (n := w.heap.size + 1) (hb1.mono (by simp))
  have b1 : Below w.heap.size w w1 := ((Below.refl _ w).alloc (Nat.le_refl _) _).trans (hb1.mono (by simp))
  clear hC1 hC1' hs1 hb1
  go_wp2_with fail
  refine (l2DrawAny_any (w.heap.size + 1) a len cap _ HC1.out).mono ?_
  rintro e w2 ⟨⟨S, X, Y, Z, bb, rfl⟩, hC2, hK2⟩
  have HI2 : Hid (I64 X ∧ I64 Y ∧ I64 Z) := bb
  have HC2 : Hid (Cur w2 (w.heap.size + 1) a len cap) := hC2
  have r0 : w2.cell? ⟨w.heap.size, 0, none⟩ = some (.bool false) := (hK2.cel w.heap.size 0 (by omega) (by omega)).trans (by rw [hc1 _ _ (by omega)]; simp [go_sem])
  have r1 : w2.cell? ⟨w.heap.size, 1, none⟩ = some (.int .i64 0) := (hK2.cel w.heap.size 1 (by omega) (by omega)).trans (by rw [hc1 _ _ (by omega)]; simp [go_sem])
  have r2 : w2.cell? ⟨w.heap.size, 2, none⟩ = some (.int .i64 0) := (hK2.cel w.heap.size 2 (by omega) (by omega)).trans (by rw [hc1 _ _ (by omega)]; simp [go_sem])
  have r3 : w2.cell? ⟨w.heap.size, 3, none⟩ = some (.int .i64 0) := (hK2.cel w.heap.size 3 (by omega) (by omega)).trans (by rw [hc1 _ _ (by omega)]; simp [go_sem])
  have rf : ∀ o, w2.frozen? ⟨w.heap.size, o, none⟩ = false := fun o => (hK2.frz w.heap.size o (by omega) (by omega)).trans (by rw [hf1 _ _ (by omega)]; simp [go_sem])
  have HB2 : Hid (Below w.heap.size w w2) := hidP (b1.trans (hK2.low.mono (by omega)))
  have z2 : w.heap.size + 2 ≤ w2.heap.size := by have := hK2.big; omega
  have z3 : w.heap.size < w2.heap.size := by omega
  clear hK2 bb hC2 hc1 hf1 b1 HC1 hs HB
  go_wp2_with fail
  go_region_with (first | (go_at_call 17; refine (l1Int_any I64 (w.heap.size + 1) a len cap (w2.heap.size + 1) 8 _ (by repeat (first | with_reducible exact HC2.out | (with_reducible refine Cur.more ?_ _) | (with_reducible refine Cur.drew ?_))) (by omega) (by omega) (by simp) (by omega) (fun j hj => eight (z0 := 0) (z1 := 1) (z2 := 3) (z3 := 15) (z4 := 255) (z5 := 256) (z6 := 9223372036854775807) (z7 := -1) (by simp [go_sem]) (by simp [go_sem]) (by simp [go_sem]) (by simp [go_sem]) (by simp [go_sem]) (by simp [go_sem]) (by simp [go_sem]) (by simp [go_sem]) (by unfold I64; omega) (by unfold I64; omega) (by unfold I64; omega) (by unfold I64; omega) (by unfold I64; omega) (by unfold I64; omega) (by unfold I64; omega) (by unfold I64; omega) j hj)).mono ?_; rintro e w4 ⟨⟨x4, x40, rfl⟩, hC4, hK4⟩; have HX4 := hidP x40; have hK4' := hidP hK4; have b40 : w4.cell? ⟨w2.heap.size, 0, none⟩ = some (.bool S) := (hK4.cel w2.heap.size 0 (by simp; omega) (by omega)).trans (by simp [go_sem]); have b41 : w4.cell? ⟨w2.heap.size, 1, none⟩ = some (.int .i64 X) := (hK4.cel w2.heap.size 1 (by simp; omega) (by omega)).trans (by simp [go_sem]); have b42 : w4.cell? ⟨w2.heap.size, 2, none⟩ = some (.int .i64 Y) := (hK4.cel w2.heap.size 2 (by simp; omega) (by omega)).trans (by simp [go_sem]); have b43 : w4.cell? ⟨w2.heap.size, 3, none⟩ = some (.int .i64 Z) := (hK4.cel w2.heap.size 3 (by simp; omega) (by omega)).trans (by simp [go_sem]); have k40 : w4.cell? ⟨w.heap.size, 0, none⟩ = some (.bool false) := (hK4.cel w.heap.size 0 (by simp; omega) (by omega)).trans (by simp [go_sem, r0, z3]); have k41 : w4.cell? ⟨w.heap.size, 1, none⟩ = some (.int .i64 0) := (hK4.cel w.heap.size 1 (by simp; omega) (by omega)).trans (by simp [go_sem, r1, z3]); have k42 : w4.cell? ⟨w.heap.size, 2, none⟩ = some (.int .i64 0) := (hK4.cel w.heap.size 2 (by simp; omega) (by omega)).trans (by simp [go_sem, r2, z3]); have k43 : w4.cell? ⟨w.heap.size, 3, none⟩ = some (.int .i64 0) := (hK4.cel w.heap.size 3 (by simp; omega) (by omega)).trans (by simp [go_sem, r3, z3]); have k4f : ∀ o, w4.frozen? ⟨w.heap.size, o, none⟩ = false := (fun o => (hK4.frz w.heap.size o (by simp; omega) (by omega)).trans (by simp [go_sem, rf, z3])); have v3 := hK4.big; simp at v3; have l4 : w.heap.size < w4.heap.size := (by omega); clear hC4 hK4 x40))
  all_goals
    go_wp2_with fail
    refine bodyPost_ret (v := .tuple #[.agg #[.bool S, .int .i64 X, .int .i64 Y, .int .i64 Z], .int .i64 x4]) (by simp [results, Tryz.results5, go_sem, k40, k41, k42, k43]) rfl ⟨⟨S, X, Y, Z, x4, ⟨HI2.out.1, HI2.out.2.1, HI2.out.2.2, HX4.out⟩, rfl⟩, ?_⟩
    repeat (first | (with_reducible refine Below.setCell ?_ (by first | omega | (simp; done) | (simp; omega)) _) | (with_reducible refine Below.drew ?_) | (with_reducible refine Below.alloc ?_ (by first | omega | (simp; done) | (simp; omega)) _) | with_reducible exact HB2.out | (with_reducible refine Below.trans ?_ (hK4'.out.low.mono (by omega))))

end Go.Proofs.YtadhapggcifldaaGreatDoor
namespace Go.Proofs.YtadhapggcifldaaGreatDoor
open Go.ChangeShapes Go.WideShapes Go.ChangeAt Go.RowKit Go.Joins Go.Deep

theorem Tryz.laidOutW : laidOutB Tryz.prog = true := by kernel_rfl
theorem Tryz.cellsByteW : Tryz.prog.cellsOf 5 = 1 := by kernel_rfl

/-- The code's bytes out of the reading of a row of bytes. -/
theorem bytes_open {H : Type} {enc : TypeId × Value → H} {W : World} {a : Option Addr} {len cap : Nat} {d : DataW H} {p : List MemPlace}
    (h : DataW.Trod enc Tryz.prog W 0 (fun _ => true) true 22 (.slice a len cap) d p) : Bytes W a len := by
  obtain ⟨fuel, hf⟩ := h
  rcases open_slice1 Tryz.underlying22 Tryz.cellsByteW hf with ⟨hcs, _⟩ | ⟨a', len', cap', m, n, V, D, Pl, hcs, _, hl, _, hm, _, hV⟩
  · simp [Value.cells] at hcs
    obtain ⟨rfl, rfl, rfl⟩ := hcs
    exact fun j hj => absurd hj (Nat.not_lt_zero j)
  · simp [Value.cells] at hcs
    obtain ⟨rfl, rfl, rfl⟩ := hcs
    intro j hj
    simp at hm
    obtain ⟨hc, ht⟩ := hV j (by omega)
    obtain ⟨v, e, _, wv⟩ := DataW.trod_int Tryz.underlying5 ht
    simp at e
    rw [e] at hc
    have hb : 0 ≤ v ∧ v ≤ 255 := by simpa [Lit.wf, IntKind.min, IntKind.max, IntKind.signed, IntKind.bits] using wv
    obtain ⟨p', o', sp⟩ := a'
    cases sp with
    | some q =>
      exfalso
      have h0 := (hV 0 (by omega)).1
      rw [show Addr.add ⟨p', o', some q⟩ 0 = ⟨p', o', some q⟩ from rfl] at h0
      unfold World.cell? at h0
      split at h0
      · simp at h0
      · cases h0
    | none =>
      have hc' : W.cell? ⟨p', o' + j, none⟩ = some (.int .u8 v) := by
        cases j with
        | zero => simpa [Addr.add] using hc
        | succ i => simpa [Addr.add] using hc
      exact ⟨p', o', v, rfl, World.block_lt_of_cell? W _ hc', hc', hb.1, by omega⟩

end Go.Proofs.YtadhapggcifldaaGreatDoor
namespace Go.Proofs.YtadhapggcifldaaGreatDoor
open Go.ChangeShapes Go.WideShapes Go.ChangeAt Go.RowKit Go.Joins Go.Deep

theorem eqPa9 (a : Bool) (b c : Int) (d : Bool) (e f : Int) (w : World) : (Op.equalIn 9999 25 (.agg #[.bool a, .int .i64 b, .int .i64 c]) (.agg #[.bool d, .int .i64 e, .int .i64 f])).run Tryz.prog w = .ok (a == d && (b == e && c == f)) w := by
  have u3 := Tryz.underlying3
  have a3 := Tryz.isAgg3
  have z3 := Tryz.sizeOf3
  have u4 := Tryz.underlying4
  have a4 := Tryz.isAgg4
  have z4 := Tryz.sizeOf4
  have hS : Tryz.prog.underlying 25 = some (.struct (Tryz.prog.fieldsOf 25)) := by kernel_rfl
  have hp : Tryz.prog.stoodInHeld 25 = false := by kernel_rfl
  rw [show (9999 : Nat) = 9998 + 1 from rfl, run_equalIn_agg w 9998 25 _ _ hS hp]
  simp only [Program.fieldsOf, Tryz.underlying25]
  go_simp
  by_cases h1 : a = d <;> by_cases h2 : b = e <;> by_cases h3 : c = f <;> simp [h1, h2, h3]
theorem eqPf (a : Bool) (b c g : Int) (d : Bool) (e f h : Int) (w : World) : (Op.equalIn 10000 27 (.agg #[.bool a, .int .i64 b, .int .i64 c, .int .i64 g]) (.agg #[.bool d, .int .i64 e, .int .i64 f, .int .i64 h])).run Tryz.prog w = .ok ((a == d && (b == e && c == f)) && g == h) w := by
  have u3 := Tryz.underlying3
  have a3 := Tryz.isAgg3
  have z3 := Tryz.sizeOf3
  have hS : Tryz.prog.underlying 27 = some (.struct (Tryz.prog.fieldsOf 27)) := by kernel_rfl
  have hp : Tryz.prog.stoodInHeld 27 = false := by kernel_rfl
  have q := eqPa9 a b c d e f
  rw [show (10000 : Nat) = 9999 + 1 from rfl, run_equalIn_agg w 9999 27 _ _ hS hp]
  simp only [Program.fieldsOf, Tryz.underlying27]
  go_simp
  by_cases h1 : a = d <;> by_cases h2 : b = e <;> by_cases h3 : c = f <;> by_cases h4 : g = h <;> simp [h1, h2, h3, h4]
theorem pf_same (S : Bool) (H L Z : Int) (wx : World) : (Op.equalIn 10000 27 (.agg #[.bool S, .int .i64 H, .int .i64 L, .int .i64 Z]) (.agg #[.bool S, .int .i64 H, .int .i64 L, .int .i64 Z])).run Tryz.prog wx = .ok true wx := by
  rw [eqPf]; simp

set_option maxRecDepth 10000 in
set_option maxHeartbeats 8000000 in
theorem lawPrefixes (a : Option Addr) (len cap : Nat) (w : World) (hB : Bytes w a len) (hl : len ≤ 1048576) (ht : Tabs w) (hs : ShP w) :
    Calls Tryz.prog 3 #[.slice a len cap] w fun e w' => e = .returned (.bool true) ∧ Below w.heap.size w w' := by
  have HBy := hidP hB
  have HT := hidP ht
  have HSh := hidP hs
  clear hB ht hs
  have hbig : ∀ wx : World, Calls Tryz.prog 4 #[.slice a len cap] wx fun e w' => e = .returned (.bool false) ∧ wx = w' := fun wx => by
    have d : decide ((1048576 : Int) < (len : Int)) = false := decide_eq_false (by omega)
    go_enter Tryz.func4, Tryz.ntmps4
    go_wp2
    go_ret
    exact ⟨rfl, rfl⟩
  have HG := hidP hbig
  clear hbig
  go_enter Tryz.func3, Tryz.ntmps3
  go_wp2_with fail
  refine (HG.out _).mono ?_
  rintro e w0 ⟨rfl, rfl⟩
  go_wp2_with fail
  refine (drawNthOf_any a len cap _ HBy.out hl).mono ?_
  rintro e w1 ⟨⟨S, X0, Y0, Z, N, ⟨bX, bY, bZ, bN⟩, rfl⟩, hb1⟩
  obtain ⟨H, rfl⟩ : ∃ H : BitVec 64, X0 = H.toInt := ⟨BitVec.ofInt 64 X0, (ofJ X0 bX).symm⟩
  obtain ⟨L, rfl⟩ : ∃ L : BitVec 64, Y0 = L.toInt := ⟨BitVec.ofInt 64 Y0, (ofJ Y0 bY).symm⟩
  have hN : N ≤ 9223372036854775807 := bN.2
  have acc_w1 := hidP hb1
  clear hb1 bX bY bZ bN HBy HG
  have hE := pf_same S H.toInt L.toInt Z
  have HPo := hidP (sPrefixOk_any S H L Z)
  have HPi := hidP (iPrefixOk_any S H L Z)
  cases hp : pokB S H L Z
  · have HPt := hidP (iPText_no S H L Z hp)
    rw [hp] at HPo HPi
    go_wp2_with fail
    obtain ⟨px0_W2, px1_W2, px2_W2, px3_W2⟩ := bx4 w1 27 (.bool S) (.int .i64 H.toInt) (.int .i64 L.toInt) (.int .i64 Z)
    have pxF_W2 : ∀ o, (w1.alloc (.cells #[.bool S, .int .i64 H.toInt, .int .i64 L.toInt, .int .i64 Z] 27)).frozen? ⟨w1.heap.size, o, none⟩ = false := fun o => by simp [go_sem]
    have pxL_W2 : w1.heap.size < (w1.alloc (.cells #[.bool S, .int .i64 H.toInt, .int .i64 L.toInt, .int .i64 Z] 27)).heap.size := by simp
    have ab_W2 := alloc_below w1 (.cells #[.bool S, .int .i64 H.toInt, .int .i64 L.toInt, .int .i64 Z] 27)
    have as_W2 : Hid ((w1.alloc (.cells #[.bool S, .int .i64 H.toInt, .int .i64 L.toInt, .int .i64 Z] 27)).heap.size = w1.heap.size + 1) := hidP (by simp)
    generalize w1.alloc (.cells #[.bool S, .int .i64 H.toInt, .int .i64 L.toInt, .int .i64 Z] 27) = W2 at *
    have acc_W2 := hidP (acc_w1.out.trans (ab_W2.mono acc_w1.out.size))
    have sz_W2 : Hid (w1.heap.size ≤ W2.heap.size) := hidP ab_W2.size
    clear ab_W2 acc_w1
    refine (HPo.out _).mono ?_
    rintro e w3 ⟨rfl, hb3⟩
    have px0_w3 := (hb3.cell pxL_W2).trans px0_W2
    have px1_w3 := (hb3.cell pxL_W2).trans px1_W2
    have px2_w3 := (hb3.cell pxL_W2).trans px2_W2
    have px3_w3 := (hb3.cell pxL_W2).trans px3_W2
    have pxF_w3 : ∀ o, w3.frozen? ⟨w1.heap.size, o, none⟩ = false := fun o => (hb3.frozen pxL_W2).trans (pxF_W2 o)
    have pxL_w3 : w1.heap.size < w3.heap.size := Nat.lt_of_lt_of_le pxL_W2 hb3.size
    have acc_w3 := hidP (acc_W2.out.trans (hb3.mono acc_W2.out.size))
    have sz_w3 : Hid (W2.heap.size ≤ w3.heap.size) := hidP hb3.size
    clear hb3 px0_W2 px1_W2 px2_W2 px3_W2 pxF_W2 pxL_W2 acc_W2
    go_wp2_with fail
    refine (HPt.out _).mono ?_
    rintro e w4 ⟨rfl, hb4⟩
    have px0_w4 := (hb4.cell pxL_w3).trans px0_w3
    have px1_w4 := (hb4.cell pxL_w3).trans px1_w3
    have px2_w4 := (hb4.cell pxL_w3).trans px2_w3
    have px3_w4 := (hb4.cell pxL_w3).trans px3_w3
    have pxF_w4 : ∀ o, w4.frozen? ⟨w1.heap.size, o, none⟩ = false := fun o => (hb4.frozen pxL_w3).trans (pxF_w3 o)
    have pxL_w4 : w1.heap.size < w4.heap.size := Nat.lt_of_lt_of_le pxL_w3 hb4.size
    have acc_w4 := hidP (acc_w3.out.trans (hb4.mono acc_w3.out.size))
    have sz_w4 : Hid (w3.heap.size ≤ w4.heap.size) := hidP hb4.size
    clear hb4 px0_w3 px1_w3 px2_w3 px3_w3 pxF_w3 pxL_w3 acc_w3
    go_wp2_with fail
    refine (HPi.out _).mono ?_
    rintro e w5 ⟨rfl, hb5⟩
    have px0_w5 := (hb5.cell pxL_w4).trans px0_w4
    have px1_w5 := (hb5.cell pxL_w4).trans px1_w4
    have px2_w5 := (hb5.cell pxL_w4).trans px2_w4
    have px3_w5 := (hb5.cell pxL_w4).trans px3_w4
    have pxF_w5 : ∀ o, w5.frozen? ⟨w1.heap.size, o, none⟩ = false := fun o => (hb5.frozen pxL_w4).trans (pxF_w4 o)
    have pxL_w5 : w1.heap.size < w5.heap.size := Nat.lt_of_lt_of_le pxL_w4 hb5.size
    have acc_w5 := hidP (acc_w4.out.trans (hb5.mono acc_w4.out.size))
    have sz_w5 : Hid (w4.heap.size ≤ w5.heap.size) := hidP hb5.size
    clear hb5 px0_w4 px1_w4 px2_w4 px3_w4 pxF_w4 pxL_w4 acc_w4
    go_wp2_with fail
    go_ret
    exact ⟨rfl, acc_w5.out⟩
  · have HTx := hidP (ptext S H L Z hp)
    have HPp := hidP (pparse S H L Z hp)
    rw [hp] at HPo
    obtain ⟨R, X, Y, ok, hA⟩ := nth_both S H L Z N hN hp
    obtain ⟨nI, nS, nT⟩ := hA
    have HNI := hidP nI
    have HNS := hidP nS
    have HNT := hidP nT
    clear nI nS nT hp
    generalize (tA S H.toInt L.toInt ++ [47] ++ decs Z).toArray = tx at *
    go_wp2_with fail
    obtain ⟨px0_W2, px1_W2, px2_W2, px3_W2⟩ := bx4 w1 27 (.bool S) (.int .i64 H.toInt) (.int .i64 L.toInt) (.int .i64 Z)
    have pxF_W2 : ∀ o, (w1.alloc (.cells #[.bool S, .int .i64 H.toInt, .int .i64 L.toInt, .int .i64 Z] 27)).frozen? ⟨w1.heap.size, o, none⟩ = false := fun o => by simp [go_sem]
    have pxL_W2 : w1.heap.size < (w1.alloc (.cells #[.bool S, .int .i64 H.toInt, .int .i64 L.toInt, .int .i64 Z] 27)).heap.size := by simp
    have ab_W2 := alloc_below w1 (.cells #[.bool S, .int .i64 H.toInt, .int .i64 L.toInt, .int .i64 Z] 27)
    have as_W2 : Hid ((w1.alloc (.cells #[.bool S, .int .i64 H.toInt, .int .i64 L.toInt, .int .i64 Z] 27)).heap.size = w1.heap.size + 1) := hidP (by simp)
    generalize w1.alloc (.cells #[.bool S, .int .i64 H.toInt, .int .i64 L.toInt, .int .i64 Z] 27) = W2 at *
    have acc_W2 := hidP (acc_w1.out.trans (ab_W2.mono acc_w1.out.size))
    have sz_W2 : Hid (w1.heap.size ≤ W2.heap.size) := hidP ab_W2.size
    clear ab_W2 acc_w1
    refine (HPo.out _).mono ?_
    rintro e w3 ⟨rfl, hb3⟩
    have px0_w3 := (hb3.cell pxL_W2).trans px0_W2
    have px1_w3 := (hb3.cell pxL_W2).trans px1_W2
    have px2_w3 := (hb3.cell pxL_W2).trans px2_W2
    have px3_w3 := (hb3.cell pxL_W2).trans px3_W2
    have pxF_w3 : ∀ o, w3.frozen? ⟨w1.heap.size, o, none⟩ = false := fun o => (hb3.frozen pxL_W2).trans (pxF_W2 o)
    have pxL_w3 : w1.heap.size < w3.heap.size := Nat.lt_of_lt_of_le pxL_W2 hb3.size
    have acc_w3 := hidP (acc_W2.out.trans (hb3.mono acc_W2.out.size))
    have sz_w3 : Hid (W2.heap.size ≤ w3.heap.size) := hidP hb3.size
    clear hb3 px0_W2 px1_W2 px2_W2 px3_W2 pxF_W2 pxL_W2 acc_W2
    go_wp2_with fail
    refine (HTx.out _ (HT.out.below acc_w3.out)).mono ?_
    rintro e w4 ⟨rfl, hb4⟩
    have px0_w4 := (hb4.cell pxL_w3).trans px0_w3
    have px1_w4 := (hb4.cell pxL_w3).trans px1_w3
    have px2_w4 := (hb4.cell pxL_w3).trans px2_w3
    have px3_w4 := (hb4.cell pxL_w3).trans px3_w3
    have pxF_w4 : ∀ o, w4.frozen? ⟨w1.heap.size, o, none⟩ = false := fun o => (hb4.frozen pxL_w3).trans (pxF_w3 o)
    have pxL_w4 : w1.heap.size < w4.heap.size := Nat.lt_of_lt_of_le pxL_w3 hb4.size
    have acc_w4 := hidP (acc_w3.out.trans (hb4.mono acc_w3.out.size))
    have sz_w4 : Hid (w3.heap.size ≤ w4.heap.size) := hidP hb4.size
    clear hb4 px0_w3 px1_w3 px2_w3 px3_w3 pxF_w3 pxL_w3 acc_w3
    go_wp2_with fail
    refine (HPp.out _ (HT.out.below acc_w4.out) (HSh.out.below acc_w4.out)).mono ?_
    rintro e w5 ⟨rfl, hb5⟩
    have px0_w5 := (hb5.cell pxL_w4).trans px0_w4
    have px1_w5 := (hb5.cell pxL_w4).trans px1_w4
    have px2_w5 := (hb5.cell pxL_w4).trans px2_w4
    have px3_w5 := (hb5.cell pxL_w4).trans px3_w4
    have pxF_w5 : ∀ o, w5.frozen? ⟨w1.heap.size, o, none⟩ = false := fun o => (hb5.frozen pxL_w4).trans (pxF_w4 o)
    have pxL_w5 : w1.heap.size < w5.heap.size := Nat.lt_of_lt_of_le pxL_w4 hb5.size
    have acc_w5 := hidP (acc_w4.out.trans (hb5.mono acc_w4.out.size))
    have sz_w5 : Hid (w4.heap.size ≤ w5.heap.size) := hidP hb5.size
    clear hb5 px0_w4 px1_w4 px2_w4 px3_w4 pxF_w4 pxL_w4 acc_w4
    go_wp2_with fail
    obtain ⟨xx0_W6, xx1_W6, xx2_W6, xx3_W6⟩ := bx4 w5 27 (.bool S) (.int .i64 H.toInt) (.int .i64 L.toInt) (.int .i64 Z)
    have xxF_W6 : ∀ o, (w5.alloc (.cells #[.bool S, .int .i64 H.toInt, .int .i64 L.toInt, .int .i64 Z] 27)).frozen? ⟨w5.heap.size, o, none⟩ = false := fun o => by simp [go_sem]
    have xxL_W6 : w5.heap.size < (w5.alloc (.cells #[.bool S, .int .i64 H.toInt, .int .i64 L.toInt, .int .i64 Z] 27)).heap.size := by simp
    have ab_W6 := alloc_below w5 (.cells #[.bool S, .int .i64 H.toInt, .int .i64 L.toInt, .int .i64 Z] 27)
    have as_W6 : Hid ((w5.alloc (.cells #[.bool S, .int .i64 H.toInt, .int .i64 L.toInt, .int .i64 Z] 27)).heap.size = w5.heap.size + 1) := hidP (by simp)
    generalize w5.alloc (.cells #[.bool S, .int .i64 H.toInt, .int .i64 L.toInt, .int .i64 Z] 27) = W6 at *
    have px0_W6 := (ab_W6.cell pxL_w5).trans px0_w5
    have px1_W6 := (ab_W6.cell pxL_w5).trans px1_w5
    have px2_W6 := (ab_W6.cell pxL_w5).trans px2_w5
    have px3_W6 := (ab_W6.cell pxL_w5).trans px3_w5
    have pxF_W6 : ∀ o, W6.frozen? ⟨w1.heap.size, o, none⟩ = false := fun o => (ab_W6.frozen pxL_w5).trans (pxF_w5 o)
    have pxL_W6 : w1.heap.size < W6.heap.size := Nat.lt_of_lt_of_le pxL_w5 ab_W6.size
    have acc_W6 := hidP (acc_w5.out.trans (ab_W6.mono acc_w5.out.size))
    have sz_W6 : Hid (w5.heap.size ≤ W6.heap.size) := hidP ab_W6.size
    clear ab_W6 px0_w5 px1_w5 px2_w5 px3_w5 pxF_w5 pxL_w5 acc_w5
    refine (HNI.out _).mono ?_
    rintro e w7 ⟨rfl, hb7⟩
    have px0_w7 := (hb7.cell pxL_W6).trans px0_W6
    have px1_w7 := (hb7.cell pxL_W6).trans px1_W6
    have px2_w7 := (hb7.cell pxL_W6).trans px2_W6
    have px3_w7 := (hb7.cell pxL_W6).trans px3_W6
    have pxF_w7 : ∀ o, w7.frozen? ⟨w1.heap.size, o, none⟩ = false := fun o => (hb7.frozen pxL_W6).trans (pxF_W6 o)
    have pxL_w7 : w1.heap.size < w7.heap.size := Nat.lt_of_lt_of_le pxL_W6 hb7.size
    have xx0_w7 := (hb7.cell xxL_W6).trans xx0_W6
    have xx1_w7 := (hb7.cell xxL_W6).trans xx1_W6
    have xx2_w7 := (hb7.cell xxL_W6).trans xx2_W6
    have xx3_w7 := (hb7.cell xxL_W6).trans xx3_W6
    have xxF_w7 : ∀ o, w7.frozen? ⟨w5.heap.size, o, none⟩ = false := fun o => (hb7.frozen xxL_W6).trans (xxF_W6 o)
    have xxL_w7 : w5.heap.size < w7.heap.size := Nat.lt_of_lt_of_le xxL_W6 hb7.size
    have acc_w7 := hidP (acc_W6.out.trans (hb7.mono acc_W6.out.size))
    have sz_w7 : Hid (W6.heap.size ≤ w7.heap.size) := hidP hb7.size
    clear hb7 px0_W6 px1_W6 px2_W6 px3_W6 pxF_W6 pxL_W6 xx0_W6 xx1_W6 xx2_W6 xx3_W6 xxF_W6 xxL_W6 acc_W6
    go_wp2_with fail
    obtain ⟨ax0_W8, ax1_W8, ax2_W8⟩ := bx3 w7 25 (.bool R) (.int .i64 X.toInt) (.int .i64 Y.toInt)
    have axF_W8 : ∀ o, (w7.alloc (.cells #[.bool R, .int .i64 X.toInt, .int .i64 Y.toInt] 25)).frozen? ⟨w7.heap.size, o, none⟩ = false := fun o => by simp [go_sem]
    have axL_W8 : w7.heap.size < (w7.alloc (.cells #[.bool R, .int .i64 X.toInt, .int .i64 Y.toInt] 25)).heap.size := by simp
    have ab_W8 := alloc_below w7 (.cells #[.bool R, .int .i64 X.toInt, .int .i64 Y.toInt] 25)
    have as_W8 : Hid ((w7.alloc (.cells #[.bool R, .int .i64 X.toInt, .int .i64 Y.toInt] 25)).heap.size = w7.heap.size + 1) := hidP (by simp)
    generalize w7.alloc (.cells #[.bool R, .int .i64 X.toInt, .int .i64 Y.toInt] 25) = W8 at *
    have px0_W8 := (ab_W8.cell pxL_w7).trans px0_w7
    have px1_W8 := (ab_W8.cell pxL_w7).trans px1_w7
    have px2_W8 := (ab_W8.cell pxL_w7).trans px2_w7
    have px3_W8 := (ab_W8.cell pxL_w7).trans px3_w7
    have pxF_W8 : ∀ o, W8.frozen? ⟨w1.heap.size, o, none⟩ = false := fun o => (ab_W8.frozen pxL_w7).trans (pxF_w7 o)
    have pxL_W8 : w1.heap.size < W8.heap.size := Nat.lt_of_lt_of_le pxL_w7 ab_W8.size
    have xx0_W8 := (ab_W8.cell xxL_w7).trans xx0_w7
    have xx1_W8 := (ab_W8.cell xxL_w7).trans xx1_w7
    have xx2_W8 := (ab_W8.cell xxL_w7).trans xx2_w7
    have xx3_W8 := (ab_W8.cell xxL_w7).trans xx3_w7
    have xxF_W8 : ∀ o, W8.frozen? ⟨w5.heap.size, o, none⟩ = false := fun o => (ab_W8.frozen xxL_w7).trans (xxF_w7 o)
    have xxL_W8 : w5.heap.size < W8.heap.size := Nat.lt_of_lt_of_le xxL_w7 ab_W8.size
    have acc_W8 := hidP (acc_w7.out.trans (ab_W8.mono acc_w7.out.size))
    have sz_W8 : Hid (w7.heap.size ≤ W8.heap.size) := hidP ab_W8.size
    clear ab_W8 px0_w7 px1_w7 px2_w7 px3_w7 pxF_w7 pxL_w7 xx0_w7 xx1_w7 xx2_w7 xx3_w7 xxF_w7 xxL_w7 acc_w7
    refine (HNS.out _).mono ?_
    rintro e w9 ⟨rfl, hb9⟩
    have px0_w9 := (hb9.cell pxL_W8).trans px0_W8
    have px1_w9 := (hb9.cell pxL_W8).trans px1_W8
    have px2_w9 := (hb9.cell pxL_W8).trans px2_W8
    have px3_w9 := (hb9.cell pxL_W8).trans px3_W8
    have pxF_w9 : ∀ o, w9.frozen? ⟨w1.heap.size, o, none⟩ = false := fun o => (hb9.frozen pxL_W8).trans (pxF_W8 o)
    have pxL_w9 : w1.heap.size < w9.heap.size := Nat.lt_of_lt_of_le pxL_W8 hb9.size
    have xx0_w9 := (hb9.cell xxL_W8).trans xx0_W8
    have xx1_w9 := (hb9.cell xxL_W8).trans xx1_W8
    have xx2_w9 := (hb9.cell xxL_W8).trans xx2_W8
    have xx3_w9 := (hb9.cell xxL_W8).trans xx3_W8
    have xxF_w9 : ∀ o, w9.frozen? ⟨w5.heap.size, o, none⟩ = false := fun o => (hb9.frozen xxL_W8).trans (xxF_W8 o)
    have xxL_w9 : w5.heap.size < w9.heap.size := Nat.lt_of_lt_of_le xxL_W8 hb9.size
    have ax0_w9 := (hb9.cell axL_W8).trans ax0_W8
    have ax1_w9 := (hb9.cell axL_W8).trans ax1_W8
    have ax2_w9 := (hb9.cell axL_W8).trans ax2_W8
    have axF_w9 : ∀ o, w9.frozen? ⟨w7.heap.size, o, none⟩ = false := fun o => (hb9.frozen axL_W8).trans (axF_W8 o)
    have axL_w9 : w7.heap.size < w9.heap.size := Nat.lt_of_lt_of_le axL_W8 hb9.size
    have acc_w9 := hidP (acc_W8.out.trans (hb9.mono acc_W8.out.size))
    have sz_w9 : Hid (W8.heap.size ≤ w9.heap.size) := hidP hb9.size
    clear hb9 px0_W8 px1_W8 px2_W8 px3_W8 pxF_W8 pxL_W8 xx0_W8 xx1_W8 xx2_W8 xx3_W8 xxF_W8 xxL_W8 ax0_W8 ax1_W8 ax2_W8 axF_W8 axL_W8 acc_W8
    cases ok
    · go_wp2_with fail
      go_ret
      exact ⟨rfl, acc_w9.out.trans ((alloc_below _ _).mono acc_w9.out.size)⟩
    · obtain ⟨nP, nQ, nH⟩ := HNT.out rfl
      have HNP := hidP nP
      have HNQ := hidP nQ
      have HNH := hidP nH
      clear nP nQ nH HNT
      go_wp2_with fail
      obtain ⟨bx0_W10, bx1_W10, bx2_W10⟩ := bx3 w9 25 (.bool R) (.int .i64 X.toInt) (.int .i64 Y.toInt)
      have bxF_W10 : ∀ o, (w9.alloc (.cells #[.bool R, .int .i64 X.toInt, .int .i64 Y.toInt] 25)).frozen? ⟨w9.heap.size, o, none⟩ = false := fun o => by simp [go_sem]
      have bxL_W10 : w9.heap.size < (w9.alloc (.cells #[.bool R, .int .i64 X.toInt, .int .i64 Y.toInt] 25)).heap.size := by simp
      have ab_W10 := alloc_below w9 (.cells #[.bool R, .int .i64 X.toInt, .int .i64 Y.toInt] 25)
      have as_W10 : Hid ((w9.alloc (.cells #[.bool R, .int .i64 X.toInt, .int .i64 Y.toInt] 25)).heap.size = w9.heap.size + 1) := hidP (by simp)
      generalize w9.alloc (.cells #[.bool R, .int .i64 X.toInt, .int .i64 Y.toInt] 25) = W10 at *
      have px0_W10 := (ab_W10.cell pxL_w9).trans px0_w9
      have px1_W10 := (ab_W10.cell pxL_w9).trans px1_w9
      have px2_W10 := (ab_W10.cell pxL_w9).trans px2_w9
      have px3_W10 := (ab_W10.cell pxL_w9).trans px3_w9
      have pxF_W10 : ∀ o, W10.frozen? ⟨w1.heap.size, o, none⟩ = false := fun o => (ab_W10.frozen pxL_w9).trans (pxF_w9 o)
      have pxL_W10 : w1.heap.size < W10.heap.size := Nat.lt_of_lt_of_le pxL_w9 ab_W10.size
      have xx0_W10 := (ab_W10.cell xxL_w9).trans xx0_w9
      have xx1_W10 := (ab_W10.cell xxL_w9).trans xx1_w9
      have xx2_W10 := (ab_W10.cell xxL_w9).trans xx2_w9
      have xx3_W10 := (ab_W10.cell xxL_w9).trans xx3_w9
      have xxF_W10 : ∀ o, W10.frozen? ⟨w5.heap.size, o, none⟩ = false := fun o => (ab_W10.frozen xxL_w9).trans (xxF_w9 o)
      have xxL_W10 : w5.heap.size < W10.heap.size := Nat.lt_of_lt_of_le xxL_w9 ab_W10.size
      have ax0_W10 := (ab_W10.cell axL_w9).trans ax0_w9
      have ax1_W10 := (ab_W10.cell axL_w9).trans ax1_w9
      have ax2_W10 := (ab_W10.cell axL_w9).trans ax2_w9
      have axF_W10 : ∀ o, W10.frozen? ⟨w7.heap.size, o, none⟩ = false := fun o => (ab_W10.frozen axL_w9).trans (axF_w9 o)
      have axL_W10 : w7.heap.size < W10.heap.size := Nat.lt_of_lt_of_le axL_w9 ab_W10.size
      have acc_W10 := hidP (acc_w9.out.trans (ab_W10.mono acc_w9.out.size))
      have sz_W10 : Hid (w9.heap.size ≤ W10.heap.size) := hidP ab_W10.size
      clear ab_W10 px0_w9 px1_w9 px2_w9 px3_w9 pxF_w9 pxL_w9 xx0_w9 xx1_w9 xx2_w9 xx3_w9 xxF_w9 xxL_w9 ax0_w9 ax1_w9 ax2_w9 axF_w9 axL_w9 acc_w9
      refine (HNP.out _).mono ?_
      rintro e w11 ⟨rfl, hb11⟩
      have px0_w11 := (hb11.cell pxL_W10).trans px0_W10
      have px1_w11 := (hb11.cell pxL_W10).trans px1_W10
      have px2_w11 := (hb11.cell pxL_W10).trans px2_W10
      have px3_w11 := (hb11.cell pxL_W10).trans px3_W10
      have pxF_w11 : ∀ o, w11.frozen? ⟨w1.heap.size, o, none⟩ = false := fun o => (hb11.frozen pxL_W10).trans (pxF_W10 o)
      have pxL_w11 : w1.heap.size < w11.heap.size := Nat.lt_of_lt_of_le pxL_W10 hb11.size
      have xx0_w11 := (hb11.cell xxL_W10).trans xx0_W10
      have xx1_w11 := (hb11.cell xxL_W10).trans xx1_W10
      have xx2_w11 := (hb11.cell xxL_W10).trans xx2_W10
      have xx3_w11 := (hb11.cell xxL_W10).trans xx3_W10
      have xxF_w11 : ∀ o, w11.frozen? ⟨w5.heap.size, o, none⟩ = false := fun o => (hb11.frozen xxL_W10).trans (xxF_W10 o)
      have xxL_w11 : w5.heap.size < w11.heap.size := Nat.lt_of_lt_of_le xxL_W10 hb11.size
      have ax0_w11 := (hb11.cell axL_W10).trans ax0_W10
      have ax1_w11 := (hb11.cell axL_W10).trans ax1_W10
      have ax2_w11 := (hb11.cell axL_W10).trans ax2_W10
      have axF_w11 : ∀ o, w11.frozen? ⟨w7.heap.size, o, none⟩ = false := fun o => (hb11.frozen axL_W10).trans (axF_W10 o)
      have axL_w11 : w7.heap.size < w11.heap.size := Nat.lt_of_lt_of_le axL_W10 hb11.size
      have bx0_w11 := (hb11.cell bxL_W10).trans bx0_W10
      have bx1_w11 := (hb11.cell bxL_W10).trans bx1_W10
      have bx2_w11 := (hb11.cell bxL_W10).trans bx2_W10
      have bxF_w11 : ∀ o, w11.frozen? ⟨w9.heap.size, o, none⟩ = false := fun o => (hb11.frozen bxL_W10).trans (bxF_W10 o)
      have bxL_w11 : w9.heap.size < w11.heap.size := Nat.lt_of_lt_of_le bxL_W10 hb11.size
      have acc_w11 := hidP (acc_W10.out.trans (hb11.mono acc_W10.out.size))
      have sz_w11 : Hid (W10.heap.size ≤ w11.heap.size) := hidP hb11.size
      clear hb11 px0_W10 px1_W10 px2_W10 px3_W10 pxF_W10 pxL_W10 xx0_W10 xx1_W10 xx2_W10 xx3_W10 xxF_W10 xxL_W10 ax0_W10 ax1_W10 ax2_W10 axF_W10 axL_W10 bx0_W10 bx1_W10 bx2_W10 bxF_W10 bxL_W10 acc_W10
      go_wp2_with fail
      refine (HNQ.out _).mono ?_
      rintro e w12 ⟨rfl, hb12⟩
      have px0_w12 := (hb12.cell pxL_w11).trans px0_w11
      have px1_w12 := (hb12.cell pxL_w11).trans px1_w11
      have px2_w12 := (hb12.cell pxL_w11).trans px2_w11
      have px3_w12 := (hb12.cell pxL_w11).trans px3_w11
      have pxF_w12 : ∀ o, w12.frozen? ⟨w1.heap.size, o, none⟩ = false := fun o => (hb12.frozen pxL_w11).trans (pxF_w11 o)
      have pxL_w12 : w1.heap.size < w12.heap.size := Nat.lt_of_lt_of_le pxL_w11 hb12.size
      have xx0_w12 := (hb12.cell xxL_w11).trans xx0_w11
      have xx1_w12 := (hb12.cell xxL_w11).trans xx1_w11
      have xx2_w12 := (hb12.cell xxL_w11).trans xx2_w11
      have xx3_w12 := (hb12.cell xxL_w11).trans xx3_w11
      have xxF_w12 : ∀ o, w12.frozen? ⟨w5.heap.size, o, none⟩ = false := fun o => (hb12.frozen xxL_w11).trans (xxF_w11 o)
      have xxL_w12 : w5.heap.size < w12.heap.size := Nat.lt_of_lt_of_le xxL_w11 hb12.size
      have ax0_w12 := (hb12.cell axL_w11).trans ax0_w11
      have ax1_w12 := (hb12.cell axL_w11).trans ax1_w11
      have ax2_w12 := (hb12.cell axL_w11).trans ax2_w11
      have axF_w12 : ∀ o, w12.frozen? ⟨w7.heap.size, o, none⟩ = false := fun o => (hb12.frozen axL_w11).trans (axF_w11 o)
      have axL_w12 : w7.heap.size < w12.heap.size := Nat.lt_of_lt_of_le axL_w11 hb12.size
      have bx0_w12 := (hb12.cell bxL_w11).trans bx0_w11
      have bx1_w12 := (hb12.cell bxL_w11).trans bx1_w11
      have bx2_w12 := (hb12.cell bxL_w11).trans bx2_w11
      have bxF_w12 : ∀ o, w12.frozen? ⟨w9.heap.size, o, none⟩ = false := fun o => (hb12.frozen bxL_w11).trans (bxF_w11 o)
      have bxL_w12 : w9.heap.size < w12.heap.size := Nat.lt_of_lt_of_le bxL_w11 hb12.size
      have acc_w12 := hidP (acc_w11.out.trans (hb12.mono acc_w11.out.size))
      have sz_w12 : Hid (w11.heap.size ≤ w12.heap.size) := hidP hb12.size
      clear hb12 px0_w11 px1_w11 px2_w11 px3_w11 pxF_w11 pxL_w11 xx0_w11 xx1_w11 xx2_w11 xx3_w11 xxF_w11 xxL_w11 ax0_w11 ax1_w11 ax2_w11 axF_w11 axL_w11 bx0_w11 bx1_w11 bx2_w11 bxF_w11 bxL_w11 acc_w11
      go_wp2_with fail
      obtain ⟨qx0_W13, qx1_W13, qx2_W13, qx3_W13⟩ := bx4 w12 27 (.bool S) (.int .i64 H.toInt) (.int .i64 L.toInt) (.int .i64 Z)
      have qxF_W13 : ∀ o, (w12.alloc (.cells #[.bool S, .int .i64 H.toInt, .int .i64 L.toInt, .int .i64 Z] 27)).frozen? ⟨w12.heap.size, o, none⟩ = false := fun o => by simp [go_sem]
      have qxL_W13 : w12.heap.size < (w12.alloc (.cells #[.bool S, .int .i64 H.toInt, .int .i64 L.toInt, .int .i64 Z] 27)).heap.size := by simp
      have ab_W13 := alloc_below w12 (.cells #[.bool S, .int .i64 H.toInt, .int .i64 L.toInt, .int .i64 Z] 27)
      have as_W13 : Hid ((w12.alloc (.cells #[.bool S, .int .i64 H.toInt, .int .i64 L.toInt, .int .i64 Z] 27)).heap.size = w12.heap.size + 1) := hidP (by simp)
      generalize w12.alloc (.cells #[.bool S, .int .i64 H.toInt, .int .i64 L.toInt, .int .i64 Z] 27) = W13 at *
      have px0_W13 := (ab_W13.cell pxL_w12).trans px0_w12
      have px1_W13 := (ab_W13.cell pxL_w12).trans px1_w12
      have px2_W13 := (ab_W13.cell pxL_w12).trans px2_w12
      have px3_W13 := (ab_W13.cell pxL_w12).trans px3_w12
      have pxF_W13 : ∀ o, W13.frozen? ⟨w1.heap.size, o, none⟩ = false := fun o => (ab_W13.frozen pxL_w12).trans (pxF_w12 o)
      have pxL_W13 : w1.heap.size < W13.heap.size := Nat.lt_of_lt_of_le pxL_w12 ab_W13.size
      have xx0_W13 := (ab_W13.cell xxL_w12).trans xx0_w12
      have xx1_W13 := (ab_W13.cell xxL_w12).trans xx1_w12
      have xx2_W13 := (ab_W13.cell xxL_w12).trans xx2_w12
      have xx3_W13 := (ab_W13.cell xxL_w12).trans xx3_w12
      have xxF_W13 : ∀ o, W13.frozen? ⟨w5.heap.size, o, none⟩ = false := fun o => (ab_W13.frozen xxL_w12).trans (xxF_w12 o)
      have xxL_W13 : w5.heap.size < W13.heap.size := Nat.lt_of_lt_of_le xxL_w12 ab_W13.size
      have ax0_W13 := (ab_W13.cell axL_w12).trans ax0_w12
      have ax1_W13 := (ab_W13.cell axL_w12).trans ax1_w12
      have ax2_W13 := (ab_W13.cell axL_w12).trans ax2_w12
      have axF_W13 : ∀ o, W13.frozen? ⟨w7.heap.size, o, none⟩ = false := fun o => (ab_W13.frozen axL_w12).trans (axF_w12 o)
      have axL_W13 : w7.heap.size < W13.heap.size := Nat.lt_of_lt_of_le axL_w12 ab_W13.size
      have bx0_W13 := (ab_W13.cell bxL_w12).trans bx0_w12
      have bx1_W13 := (ab_W13.cell bxL_w12).trans bx1_w12
      have bx2_W13 := (ab_W13.cell bxL_w12).trans bx2_w12
      have bxF_W13 : ∀ o, W13.frozen? ⟨w9.heap.size, o, none⟩ = false := fun o => (ab_W13.frozen bxL_w12).trans (bxF_w12 o)
      have bxL_W13 : w9.heap.size < W13.heap.size := Nat.lt_of_lt_of_le bxL_w12 ab_W13.size
      have acc_W13 := hidP (acc_w12.out.trans (ab_W13.mono acc_w12.out.size))
      have sz_W13 : Hid (w12.heap.size ≤ W13.heap.size) := hidP ab_W13.size
      clear ab_W13 px0_w12 px1_w12 px2_w12 px3_w12 pxF_w12 pxL_w12 xx0_w12 xx1_w12 xx2_w12 xx3_w12 xxF_w12 xxL_w12 ax0_w12 ax1_w12 ax2_w12 axF_w12 axL_w12 bx0_w12 bx1_w12 bx2_w12 bxF_w12 bxL_w12 acc_w12
      refine (HNH.out _).mono ?_
      rintro e w14 ⟨rfl, hb14⟩
      have px0_w14 := (hb14.cell pxL_W13).trans px0_W13
      have px1_w14 := (hb14.cell pxL_W13).trans px1_W13
      have px2_w14 := (hb14.cell pxL_W13).trans px2_W13
      have px3_w14 := (hb14.cell pxL_W13).trans px3_W13
      have pxF_w14 : ∀ o, w14.frozen? ⟨w1.heap.size, o, none⟩ = false := fun o => (hb14.frozen pxL_W13).trans (pxF_W13 o)
      have pxL_w14 : w1.heap.size < w14.heap.size := Nat.lt_of_lt_of_le pxL_W13 hb14.size
      have xx0_w14 := (hb14.cell xxL_W13).trans xx0_W13
      have xx1_w14 := (hb14.cell xxL_W13).trans xx1_W13
      have xx2_w14 := (hb14.cell xxL_W13).trans xx2_W13
      have xx3_w14 := (hb14.cell xxL_W13).trans xx3_W13
      have xxF_w14 : ∀ o, w14.frozen? ⟨w5.heap.size, o, none⟩ = false := fun o => (hb14.frozen xxL_W13).trans (xxF_W13 o)
      have xxL_w14 : w5.heap.size < w14.heap.size := Nat.lt_of_lt_of_le xxL_W13 hb14.size
      have ax0_w14 := (hb14.cell axL_W13).trans ax0_W13
      have ax1_w14 := (hb14.cell axL_W13).trans ax1_W13
      have ax2_w14 := (hb14.cell axL_W13).trans ax2_W13
      have axF_w14 : ∀ o, w14.frozen? ⟨w7.heap.size, o, none⟩ = false := fun o => (hb14.frozen axL_W13).trans (axF_W13 o)
      have axL_w14 : w7.heap.size < w14.heap.size := Nat.lt_of_lt_of_le axL_W13 hb14.size
      have bx0_w14 := (hb14.cell bxL_W13).trans bx0_W13
      have bx1_w14 := (hb14.cell bxL_W13).trans bx1_W13
      have bx2_w14 := (hb14.cell bxL_W13).trans bx2_W13
      have bxF_w14 : ∀ o, w14.frozen? ⟨w9.heap.size, o, none⟩ = false := fun o => (hb14.frozen bxL_W13).trans (bxF_W13 o)
      have bxL_w14 : w9.heap.size < w14.heap.size := Nat.lt_of_lt_of_le bxL_W13 hb14.size
      have qx0_w14 := (hb14.cell qxL_W13).trans qx0_W13
      have qx1_w14 := (hb14.cell qxL_W13).trans qx1_W13
      have qx2_w14 := (hb14.cell qxL_W13).trans qx2_W13
      have qx3_w14 := (hb14.cell qxL_W13).trans qx3_W13
      have qxF_w14 : ∀ o, w14.frozen? ⟨w12.heap.size, o, none⟩ = false := fun o => (hb14.frozen qxL_W13).trans (qxF_W13 o)
      have qxL_w14 : w12.heap.size < w14.heap.size := Nat.lt_of_lt_of_le qxL_W13 hb14.size
      have acc_w14 := hidP (acc_W13.out.trans (hb14.mono acc_W13.out.size))
      have sz_w14 : Hid (W13.heap.size ≤ w14.heap.size) := hidP hb14.size
      clear hb14 px0_W13 px1_W13 px2_W13 px3_W13 pxF_W13 pxL_W13 xx0_W13 xx1_W13 xx2_W13 xx3_W13 xxF_W13 xxL_W13 ax0_W13 ax1_W13 ax2_W13 axF_W13 axL_W13 bx0_W13 bx1_W13 bx2_W13 bxF_W13 bxL_W13 qx0_W13 qx1_W13 qx2_W13 qx3_W13 qxF_W13 qxL_W13 acc_W13
      go_wp2_with fail
      go_ret
      exact ⟨rfl, acc_w14.out⟩

set_option maxHeartbeats 1000000 in
theorem lawPrefixes_all (a : Option Addr) (len cap : Nat) (w : World) (hB : Bytes w a len) (ht : Tabs w) (hs : ShP w) :
    Calls Tryz.prog 3 #[.slice a len cap] w fun e w' => e = .returned (.bool true) ∧ Below w.heap.size w w' := by
  by_cases hl : len ≤ 1048576
  · exact lawPrefixes a len cap w hB hl ht hs
  · have hbig : ∀ wx : World, Calls Tryz.prog 4 #[.slice a len cap] wx fun e w' => e = .returned (.bool true) ∧ wx = w' := fun wx => by
      have d : decide ((1048576 : Int) < (len : Int)) = true := decide_eq_true (by omega)
      go_enter Tryz.func4, Tryz.ntmps4
      go_wp2
      go_ret
      exact ⟨rfl, rfl⟩
    have HG : Hid (∀ wx : World, _) := hbig
    clear hbig
    go_enter Tryz.func3, Tryz.ntmps3
    go_wp2_with fail
    refine (HG.out _).mono ?_
    rintro e w0 ⟨rfl, rfl⟩
    go_wp2_with fail
    go_ret
    exact ⟨rfl, Below.refl _ _⟩

theorem ownT : ownKnob Tryz.prog.godebug = none := by kernel_rfl
theorem g64 : Tryz.prog.globalNamed "math/bits.deBruijn64tab" = some 5 := by kernel_rfl

theorem big {W : World} (h : W.ShapedOpen Tryz.prog) : 6 ≤ W.heap.size := by
  obtain ⟨o, _, ho, _⟩ := h.2 6 (of_decide_eq_true (by kernel_rfl)) (of_decide_eq_true (by kernel_rfl))
  have := (Array.getElem?_eq_some_iff.mp ho).1
  omega
theorem star : "*" ++ "errors.errorString" = "*errors.errorString" := by decide
theorem rowE (u : TypeId) (h : Tryz.prog.typeName? 3 u = some "*errors.errorString") : u = 133 :=
  typeName_ptr_named (nm := "errors.errorString") (by rw [star]; kernel_rfl) (by kernel_rfl) (by decide) u (by rw [star]; exact h)
set_option maxRecDepth 100000 in
/-- A sentinel that the row's list lays, read. -/
theorem sent {W : World} {nm : String} {text : List UInt8} {g : Nat} (hg : Tryz.prog.globalNamed nm = some g) (hty : (Tryz.prog.globals[g]?).map (·.type) = some 59)
    (h : laidMet Tryz.prog [(nm, .iface "*errors.errorString" (.ptr (.agg [.lit (.string text)])))] W) : ∃ ev, W.cell? ⟨g, 0, none⟩ = some ev ∧ (ev = .nilIface ∨ ∃ te pe, ev = .iface te pe) := by
  obtain ⟨ps, ⟨g0, t0, cs0, f0, p0, q0, hg0, ht0, hv0, hd0, hq0, e0⟩, _, hrows⟩ := h
  obtain rfl := Option.some.inj (hg.symm.trans hg0)
  obtain rfl := Option.some.inj (hty.symm.trans ht0)
  have hq0' : q0 = [] := hq0
  subst hq0'
  subst e0
  obtain ⟨l0⟩ := cs0
  have ok0 : ∀ u v, l0 = [.iface u v] → Value.okWide Tryz.prog W .any 0 u v := fun u v e => by
    subst e
    exact (hrows g 0 (by simp [MemPlace.row])).2 u v (by simpa using World.var?_cell hg0 hv0 0)
  obtain ⟨a0, s0, rfl, _, _, _, _⟩ := errorString_of_trod Tryz.underlying59 rowE Tryz.underlying133 Tryz.underlying135 rfl rfl Tryz.underlying9 (by kernel_rfl) (by kernel_rfl) hd0 ok0
  exact ⟨_, by simpa using World.var?_cell hg0 hv0 0, Or.inr ⟨_, _, rfl⟩⟩
set_option maxRecDepth 100000 in
theorem shp {W : World} (h : laidMetH Tryz.prog Rows.fnPrefixesRow.laid W) (hO : W.ShapedOpen Tryz.prog) : ShP W := by
  have h1 := h.filter (fun x => x.1 == "strconv.ErrSyntax")
  have h2 := h.filter (fun x => x.1 == "strconv.ErrRange")
  have e1 : (Rows.fnPrefixesRow.laid.filter fun x => x.1 == "strconv.ErrSyntax") = [("strconv.ErrSyntax", Rows.laid_strconv_ErrSyntax)] := by kernel_rfl
  have e2 : (Rows.fnPrefixesRow.laid.filter fun x => x.1 == "strconv.ErrRange") = [("strconv.ErrRange", Rows.laid_strconv_ErrRange)] := by kernel_rfl
  rw [e1] at h1
  rw [e2] at h2
  exact ⟨Tryz.laysM145.s1_3 W hO, sent (by kernel_rfl) (by kernel_rfl) h1, sent (by kernel_rfl) (by kernel_rfl) h2, big hO⟩

/-- What the row's list gives: the tables' cells. -/
theorem tabs {W : World} (h : laidMetH Tryz.prog Rows.fnPrefixesRow.laid W) (hO : W.ShapedOpen Tryz.prog) : Tabs W := by
  have h1 := h.filter (fun x => x.1 == "internal/strconv.uint64pow10")
  have h2 := h.filter (fun x => x.1 == "math/bits.deBruijn64tab")
  have e1 : (Rows.fnPrefixesRow.laid.filter fun x => x.1 == "internal/strconv.uint64pow10") = [("internal/strconv.uint64pow10", Rows.laid_internal_strconv_uint64pow10)] := by kernel_rfl
  have e2 : (Rows.fnPrefixesRow.laid.filter fun x => x.1 == "math/bits.deBruijn64tab") = [("math/bits.deBruijn64tab", Rows.laid_math_bits_deBruijn64tab)] := by kernel_rfl
  rw [e1] at h1
  rw [e2] at h2
  have t1 : Lib.TabIs Tryz.prog W "internal/strconv.uint64pow10" .u64 Lib.pow10Tab :=
    Lib.tabIs_of_head (rest := []) gpow (by kernel_rfl) Tryz.underlying123 Tryz.underlying71 (by kernel_rfl) (by kernel_rfl) h1
  have t2 : Lib.TabIs Tryz.prog W "math/bits.deBruijn64tab" .u8 [0, 1, 56, 2, 57, 49, 28, 3, 61, 58, 42, 50, 38, 29, 17, 4, 62, 47, 59, 36, 45, 43, 51, 22, 53, 39, 33, 30, 24, 18, 12, 5, 63, 55, 48, 27, 60, 41, 37, 16, 46, 35, 44, 21, 52, 32, 23, 11, 54, 26, 40, 15, 34, 20, 31, 10, 25, 14, 19, 9, 13, 8, 7, 6] :=
    Lib.tabIs_of_head (rest := []) g64 (by kernel_rfl) Tryz.underlying141 Tryz.underlying5 (by kernel_rfl) (by kernel_rfl) h2
  have c : W.cell? ⟨5, 15, none⟩ = some (.int .u8 4) := t2.cell g64 15 (by decide)
  exact ⟨t1, c, big hO⟩

set_option maxRecDepth 100000 in
theorem contractT (H : Type) (enc : TypeId × Value → H) (W : World) (base : Nat) (args : Array Value) (ds gs : List (DataW H)) (before : List MemPlace)
    (hval : ∀ (j : Nat) t v, Tryz.f3.params[j]? = some t → args[j]? = some v → Value.okWide Tryz.prog W .any base t v)
    (hW : DataW.Whole enc Tryz.prog Tryz.f3.params.toList Rows.fnPrefixesSpec.vars false W args.toList ds gs before) (hL : laidMetH Tryz.prog Rows.fnPrefixesRow.laid W) (hO : W.ShapedOpen Tryz.prog) :
    Calls Tryz.prog 3 args W fun e W' => ∃ v, e = .returned v ∧ Rows.fnPrefixesSpec.post enc Tryz.prog Tryz.f3 false true false false W args v W' := by
  have hW' := hW
  obtain ⟨p, q, hA0, hV, rfl, _, _⟩ := hW
  have hA : DataW.TrodAll enc Tryz.prog W 0 (fun _ => true) true Tryz.f3.params.toList args.toList ds p := hA0
  rw [Tryz.params3] at hA hval
  obtain ⟨v0, d0, rfl, rfl, h0⟩ := trodAll_one hA
  obtain ⟨rfl, rfl⟩ := trodVars_none hV
  obtain ⟨a0, len, cap, rfl⟩ := okWide_slice Tryz.underlying22 (hval 0 22 v0 rfl rfl)
  clear hA0
  simp only [List.append_nil] at hW'
  have hlt : ∀ x ∈ p, x.block < W.heap.size := fun x hx => by simpa using hW'.lt x hx
  refine (lawPrefixes_all a0 len cap W (bytes_open h0) (tabs hL hO) (shp hL hO)).mono fun e W' ⟨he, hb⟩ => ?_
  subst he
  exact ⟨_, rfl, ⟨_, _, _, [], p, [], hW', trodAll_mk1 (shut_bool Tryz.underlying4 true), trodAll_mk1 (Below.trod Tryz.laidOutW (by kernel_rfl) (of_decide_eq_true (by kernel_rfl)) h0 hb hlt), rfl, hb.frame _, fun h => by cases h⟩⟩

/-- A block of cells laid anew. -/
def layAs (cs : Array Value) : Obj → Obj
  | .cells _ t frozen => .cells cs t frozen
  | o => o
noncomputable def low : Nat := (World.holding Tryz.prog default ⟨#[], #[], []⟩).heap.size
/-- A world for the witness: the settled one, the tables and sentinels holding what their initialisers lay. -/
noncomputable def laidWorld (os : Os) : World :=
  { World.holding Tryz.prog os ⟨#[.cells #[.string ⟨#[118, 97, 108, 117, 101, 32, 111, 117, 116, 32, 111, 102, 32, 114, 97, 110, 103, 101]⟩] 135, .cells #[.string ⟨#[105, 110, 118, 97, 108, 105, 100, 32, 115, 121, 110, 116, 97, 120]⟩] 135], #[], []⟩ with heap := (((((World.holding Tryz.prog os ⟨#[.cells #[.string ⟨#[118, 97, 108, 117, 101, 32, 111, 117, 116, 32, 111, 102, 32, 114, 97, 110, 103, 101]⟩] 135, .cells #[.string ⟨#[105, 110, 118, 97, 108, 105, 100, 32, 115, 121, 110, 116, 97, 120]⟩] 135], #[], []⟩).heap.modify 4 (layAs #[.int .u8 0, .int .u8 1, .int .u8 28, .int .u8 2, .int .u8 29, .int .u8 14, .int .u8 24, .int .u8 3, .int .u8 30, .int .u8 22, .int .u8 20, .int .u8 15, .int .u8 25, .int .u8 17, .int .u8 4, .int .u8 8, .int .u8 31, .int .u8 27, .int .u8 13, .int .u8 23, .int .u8 21, .int .u8 19, .int .u8 16, .int .u8 7, .int .u8 26, .int .u8 12, .int .u8 18, .int .u8 6, .int .u8 11, .int .u8 5, .int .u8 10, .int .u8 9])).modify 5 (layAs #[.int .u8 0, .int .u8 1, .int .u8 56, .int .u8 2, .int .u8 57, .int .u8 49, .int .u8 28, .int .u8 3, .int .u8 61, .int .u8 58, .int .u8 42, .int .u8 50, .int .u8 38, .int .u8 29, .int .u8 17, .int .u8 4, .int .u8 62, .int .u8 47, .int .u8 59, .int .u8 36, .int .u8 45, .int .u8 43, .int .u8 51, .int .u8 22, .int .u8 53, .int .u8 39, .int .u8 33, .int .u8 30, .int .u8 24, .int .u8 18, .int .u8 12, .int .u8 5, .int .u8 63, .int .u8 55, .int .u8 48, .int .u8 27, .int .u8 60, .int .u8 41, .int .u8 37, .int .u8 16, .int .u8 46, .int .u8 35, .int .u8 44, .int .u8 21, .int .u8 52, .int .u8 32, .int .u8 23, .int .u8 11, .int .u8 54, .int .u8 26, .int .u8 40, .int .u8 15, .int .u8 34, .int .u8 20, .int .u8 31, .int .u8 10, .int .u8 25, .int .u8 14, .int .u8 19, .int .u8 9, .int .u8 13, .int .u8 8, .int .u8 7, .int .u8 6])).modify 3 (layAs #[.int .u64 1, .int .u64 10, .int .u64 100, .int .u64 1000, .int .u64 10000, .int .u64 100000, .int .u64 1000000, .int .u64 10000000, .int .u64 100000000, .int .u64 1000000000, .int .u64 10000000000, .int .u64 100000000000, .int .u64 1000000000000, .int .u64 10000000000000, .int .u64 100000000000000, .int .u64 1000000000000000, .int .u64 10000000000000000, .int .u64 100000000000000000, .int .u64 1000000000000000000, .int .u64 10000000000000000000])).modify 2 (layAs #[.iface 133 (.pointer (some ⟨low, 0, none⟩))])).modify 1 (layAs #[.iface 133 (.pointer (some ⟨low + 1, 0, none⟩))]) }
theorem laid_met (os : Os) : laidMet Tryz.prog Rows.fnPrefixesRow.laid ((laidWorld os).forCall (fun _ _ => 0) ⟨#[], #[.slice none 0 0], []⟩).memory :=
  laidMet_of_run' 8 (by kernel_rfl) (by kernel_rfl)
theorem reads (os : Os) {H : Type} (enc : TypeId × Value → H) : ∃ places, DataW.whole enc Tryz.prog ((laidWorld os).forCall (fun _ _ => 0) ⟨#[], #[.slice none 0 0], []⟩).memory Tryz.f3.params.toList Rows.fnPrefixesSpec.vars false (#[.slice none 0 0] : Array Value).toList 8 = some ([.nil], [], places) :=
  ⟨[], by kernel_rfl⟩

set_option maxRecDepth 100000 in
theorem liftedT (os : Os) (started : os.Started) (H : Type) (enc : TypeId × Value → H) (F : Stop.Interp) :
    ReturnsInHanded {} Tryz.checked os 3 .any ((OpenSpec.ofChange Rows.fnPrefixesSpec).preRow enc Tryz.prog Tryz.f3 Rows.fnPrefixesRow.domain false Rows.fnPrefixesRow.laid) (((OpenSpec.ofChange Rows.fnPrefixesSpec).at F).post enc Tryz.prog Tryz.f3 false true false false) := by
  obtain ⟨places, hx⟩ := reads os enc
  refine returnsInHanded_of_row (C := Tryz.checked) (s := OpenSpec.ofChange Rows.fnPrefixesSpec) ownT started (by kernel_rfl) Tryz.func3
    (witness_row_at (enc := enc) (C := Tryz.checked) false (laidWorld os) #[.slice none 0 0] rfl (by kernel_rfl) (by kernel_rfl) (by kernel_rfl)
      (OpenSpec.preRow_of_cond 8 hx (by kernel_rfl) (fun k hk => by cases hk) (by kernel_rfl) (laid_met os))) ?_
  intro W base args ds gs before hval hW _ _ _ hL hO _
  exact contractT H enc W base args ds gs before hval hW hL hO

theorem saidT : Rows.FnPrefixesSaid :=
  OpenClaim.holds_of_cond 3 Tryz.f3 rfl rfl rfl rfl rfl rfl rfl ⟨rfl, rfl, rfl, rfl, rfl⟩ rfl rfl rfl rfl rfl (by kernel_rfl) Tryz.func3 (by kernel_rfl)
    (of_decide_eq_true (by kernel_rfl)) (by unfold Func.isWrapper; rw [if_neg (of_decide_eq_false (by kernel_rfl))]; exact ⟨rfl, rfl⟩)
    (fun os started H enc _ F => by rw [OpenClaim.pre_eq_preRow]; exact liftedT os started H enc F)

theorem plainT (f : FuncId) (fn : Func) (hf : Tryz.pinned.checked.prog.funcNamed "loop.example/g00113/laws.FnPrefixes" = some f) (hfn : Tryz.pinned.checked.prog.funcs[f]? = some fn) :
    true = Tryz.pinned.checked.prog.looks [] ∧ ∀ (j : Nat) t, fn.params[j]? = some t → Tryz.pinned.checked.prog.wantsStandIn t = false := by
  obtain rfl : f = 3 := Option.some.inj ((show Tryz.prog.funcNamed "loop.example/g00113/laws.FnPrefixes" = some 3 by kernel_rfl).symm.trans hf) |>.symm
  obtain rfl : fn = Tryz.f3 := (Option.some.inj (Tryz.func3.symm.trans hfn)).symm
  refine ⟨by kernel_rfl, fun j t ht => ?_⟩
  rw [Tryz.params3] at ht
  obtain rfl : t = 22 := by simpa using Array.mem_of_getElem? ht
  exact (show Tryz.prog.wantsStandIn 22 = false by kernel_rfl)

theorem prefixes_card : Rows.FnPrefixesCardSaid :=
  Claim7.holds_tied_plain_at .later [] _ _ _ _ saidT (fun _ h => by cases h) (by kernel_rfl) (fun _ h => by cases h) fnPrefixes_row_tie rfl ⟨rfl, rfl⟩ (by kernel_rfl) rfl plainT (by kernel_rfl)

end Go.Proofs.YtadhapggcifldaaGreatDoor
