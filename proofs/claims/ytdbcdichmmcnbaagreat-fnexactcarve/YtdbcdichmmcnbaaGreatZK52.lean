/-
  The laws' marks of a plan, and the look whether they stand.
-/
import Derived.Test.YtdbcdichmmcnbaaGreatZK51
import Derived.Test.YtdbcdichmmcnbaaGreatZK34
namespace Go.Proofs.YtdbcdichmmcnbaaGreat
open Go.RowKit

set_option maxHeartbeats 1000000 in
theorem markPlan_any (ap : Option Addr) (np cp : Nat) (ab : Option Addr) (nb cb : Nat) (ps : List Pl) (bs : List Bk) (B : Nat) (k : Int) (w : World) (hnp : np = ps.length) (hnb : nb = bs.length) (hO1 : OwnG KPl 46 w B (.slice ap np cp) ps) (hO2 : OwnG KBk 38 w B (.slice ab nb cb) bs) (hne : ∀ k, (Value.slice ap np cp).ownBlock = some k → (Value.slice ab nb cb).ownBlock ≠ some k) (h1 : np ≤ 2000000) (h2 : nb ≤ 2000000) (k0 : 0 < k) (k1 : k ≤ 1000) :
    Calls Tryz.prog 25 #[.agg #[.slice ap np cp, .slice ab nb cb], .int .i64 k] w fun e w' => e = .returned (.int .i64 (k + 5 * np + 5 * nb)) ∧ OwnG KPl 46 w' B (.slice ap np cp) (mksG (mkPl k) np) ∧ OwnG KBk 38 w' B (.slice ab nb cb) (mksG (mkBk (k + 5 * np)) nb) ∧ ∃ wm, w.grownBy wm (Value.slice ap np cp).ownBlock ∧ wm.grownBy w' (Value.slice ab nb cb).ownBlock := by
  have hl1 := fun k hk => (OwnG.lt hO1 k hk).2
  have HO := hidP (And.intro hO1 hO2)
  have HNE := hidP hne
  have HN := hidP (And.intro hnp hnb)
  have HL1 := hidP hl1
  clear hO1 hO2 hne hnp hnb hl1
  go_enter Tryz.func25, Tryz.ntmps25
  go_wp2_with fail
  obtain ⟨u0, u1⟩ := box2 (u := .slice ap np cp) (v := .slice ab nb cb) w 27
  have uB := alloc_below w (.cells #[.slice ap np cp, .slice ab nb cb] 27)
  have uL := alloc_lt w (.cells #[.slice ap np cp, .slice ab nb cb] 27)
  have uS : (w.alloc (.cells #[.slice ap np cp, .slice ab nb cb] 27)).heap.size = w.heap.size + 1 := by simp
  generalize w.alloc (.cells #[.slice ap np cp, .slice ab nb cb] 27) = W1 at *
  refine (markPoolS_any ap np cp B ps k W1 HN.out.1 (HO.out.1.later uB) (by omega) k0 (by omega)).mono ?_
  rintro e w2 ⟨rfl, o2, g2⟩
  have hob := OwnG.grown (HO.out.2.later uB) g2 (fun j hj h => HNE.out j h hj)
  have c1 : w2.cell? ⟨w.heap.size, 1, none⟩ = some (.slice ab nb cb) := (World.cell?_of_block (g2.block w.heap.size uL (fun e => by have := HL1.out _ e.symm; omega))).trans u1
  have G2 := hidP ((grown_of uB _).trans g2)
  have O2 := hidP (And.intro o2 hob)
  clear g2 o2 hob uB uS u0 u1 uL
  go_wp2_with fail
  refine (markBlockS_any ab nb cb B bs (k + 5 * np) w2 HN.out.2 O2.out.2 (by omega) (by omega) (by omega)).mono ?_
  rintro e w3 ⟨rfl, o3, g3⟩
  have op := OwnG.grown O2.out.1 g3 (fun j hj h => HNE.out j hj h)
  have F := hidP (And.intro op (And.intro o3 g3))
  clear op o3 g3 c1
  go_wp2_with fail
  go_ret
  exact ⟨rfl, F.out.1, F.out.2.1, w2, G2.out, F.out.2.2⟩

set_option maxHeartbeats 1000000 in
theorem heldPlan_any (ap : Option Addr) (np cp : Nat) (ab : Option Addr) (nb cb : Nat) (k : Int) (w : World) (hP : RowG KPl w ap (mksG (mkPl k) np)) (hK : RowG KBk w ab (mksG (mkBk (k + 5 * np)) nb)) (h1 : np ≤ 2000000) (h2 : nb ≤ 2000000) (k0 : 0 < k) (k1 : k ≤ 1000) :
    Calls Tryz.prog 26 #[.agg #[.slice ap np cp, .slice ab nb cb], .int .i64 k] w fun e w' => e = .returned (.int .i64 (k + 5 * np + 5 * nb)) ∧ Below w.heap.size w w' := by
  have HP := hidP (fun W h => heldPoolS_any ap cp np k W (hP.later h) (by omega) k0 (by omega))
  have HB := hidP (fun W h => heldBlockS_any ab cb nb (k + 5 * np) W (hK.later h) (by omega) (by omega) (by omega))
  have d1 : decide (k + 5 * (np : Int) < 0) = false := decide_eq_false (by omega)
  have d2 : decide (k + 5 * (np : Int) + 5 * (nb : Int) < 0) = false := decide_eq_false (by omega)
  have d3 : ¬ (k + 5 * (np : Int) < 0) := by omega
  have d4 : ¬ (k + 5 * (np : Int) + 5 * (nb : Int) < 0) := by omega
  clear hP hK
  go_enter Tryz.func26, Tryz.ntmps26
  go_wp2_with fail
  obtain ⟨u0, u1⟩ := box2 (u := .slice ap np cp) (v := .slice ab nb cb) w 27
  have uB := alloc_below w (.cells #[.slice ap np cp, .slice ab nb cb] 27)
  have uL := alloc_lt w (.cells #[.slice ap np cp, .slice ab nb cb] 27)
  have uS : (w.alloc (.cells #[.slice ap np cp, .slice ab nb cb] 27)).heap.size = w.heap.size + 1 := by simp
  generalize w.alloc (.cells #[.slice ap np cp, .slice ab nb cb] 27) = W1 at *
  have HU := hidP uB
  refine (HP.out _ uB).mono ?_
  rintro e w2 ⟨rfl, hb2⟩
  have c1 := (hb2.cell uL).trans u1
  have B2 := hidP (HU.out.trans (hb2.mono HU.out.size))
  clear uB uS u0 u1 hb2
  go_wp2_with fail
  refine (HB.out _ B2.out).mono ?_
  rintro e w3 ⟨rfl, hb3⟩
  have B3 := hidP (B2.out.trans (hb3.mono B2.out.size))
  clear hb3
  go_wp2_with fail
  go_ret
  exact ⟨rfl, B3.out⟩

end Go.Proofs.YtdbcdichmmcnbaaGreat
