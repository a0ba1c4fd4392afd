/-
  What putCommand_card needs, part 2.
-/
import Derived.Test.YthjpapninnbdkaaGreatDoorZC1
import Derived.Test.YthjpapninnbdkaaGreatDoorGCmI
import Derived.Test.YthjpapninnbdkaaGreatDoorGRow2
import Derived.Test.YthjpapninnbdkaaGreatDoorXEqC
import Derived.Test.YthjpapninnbdkaaGreatDoorGEq
import Derived.Test.YthjpapninnbdkaaGreatDoorCByt
import Derived.Test.YthjpapninnbdkaaGreatDoorBTo
import Derived.ProofKit
import Derived.OpenShut
import Derived.Lib.SmallJoins
import Derived.Carry
import Derived.Deep.Slices
import Derived.ChangeMaps5
import Derived.ChangeSame
import Derived.Test.YthjpapninnbdkaaGreatDoorCards
import Derived.Test.YthjpapninnbdkaaGreatDoorTie
import Derived.Deep.DeepHandedRow
import Derived.Lib.LaidTab
import Derived.LaidSub
namespace Go.Proofs.YthjpapninnbdkaaGreatDoor
open Go.RowKit

set_option maxRecDepth 10000 in
set_option maxHeartbeats 4000000 in
theorem fo_8 (s q n : Int) (aS : Bool) (aH aL : BitVec 64) (ab b : Int) (hS : Bool) (hH hL : Int) (o : ByteArray) (t sp : Int) (TA TH : List UInt8) (HI : Hid (CmI s q n b t sp o)) (_ : Hid (TA.length ≤ 200 ∧ ∀ w : World, Tabs w → Calls Tryz.prog 84 #[.agg #[.bool aS, .int .i64 aH.toInt, .int .i64 aL.toInt, .int .i64 ab]] w fun e w' => e = .returned (.string ⟨TA.toArray⟩) ∧ Below w.heap.size w w')) (HTH : Hid (TH.length ≤ 200 ∧ ∀ w : World, Tabs w → Calls Tryz.prog 87 #[.agg #[.bool hS, .int .i64 hH, .int .i64 hL]] w fun e w' => e = .returned (.string ⟨TH.toArray⟩) ∧ Below w.heap.size w w')) (y : World) (ht : Tabs y) :
    Calls Tryz.prog 61 #[.iface 136 (.agg #[.int .i64 s, .int .i64 q, .int .i64 n, .bool hS, .int .i64 hH, .int .i64 hL, .string o, .int .i64 sp])] y fun e w' => ∃ a c, e = .returned (.slice a 6 c) ∧ OwnG KF 106 w' y.heap.size (.slice a 6 c) [((fT ⟨#[115, 101, 115, 115, 105, 111, 110]⟩ s), (rB 1 s 1000000)), ((fT ⟨#[115, 101, 113]⟩ q), (rB 1 q 1000000)), ((fT ⟨#[110, 111, 119]⟩ n), (rB 0 n 1000000000)), ((hT TH), (okB hS hH hL)), ((oT o), (ownB o)), ((fT ⟨#[115, 112, 97, 110]⟩ sp), (rB 1 sp 1000))] ∧ Below y.heap.size y w' := by
  have HT := hidP ht
  clear ht
  have a1 : ∀ w : World, (Instr.typeAssert (.iface 136 (.agg #[.int .i64 s, .int .i64 q, .int .i64 n, .bool hS, .int .i64 hH, .int .i64 hL, .string o, .int .i64 sp])) 80 114 true).run Tryz.prog w = .ok (.tuple #[.agg #[.int .i64 0], .bool false]) w := fun _ => by kernel_rfl
  have a2 : ∀ w : World, (Instr.typeAssert (.iface 136 (.agg #[.int .i64 s, .int .i64 q, .int .i64 n, .bool hS, .int .i64 hH, .int .i64 hL, .string o, .int .i64 sp])) 80 116 true).run Tryz.prog w = .ok (.tuple #[.agg #[.int .i64 0, .int .i64 0], .bool false]) w := fun _ => by kernel_rfl
  have a3 : ∀ w : World, (Instr.typeAssert (.iface 136 (.agg #[.int .i64 s, .int .i64 q, .int .i64 n, .bool hS, .int .i64 hH, .int .i64 hL, .string o, .int .i64 sp])) 80 123 true).run Tryz.prog w = .ok (.tuple #[.agg #[.int .i64 0, .int .i64 0, .int .i64 0, .bool false, .int .i64 0, .int .i64 0, .int .i64 0, .int .i64 0], .bool false]) w := fun _ => by kernel_rfl
  have a4 : ∀ w : World, (Instr.typeAssert (.iface 136 (.agg #[.int .i64 s, .int .i64 q, .int .i64 n, .bool hS, .int .i64 hH, .int .i64 hL, .string o, .int .i64 sp])) 80 125 true).run Tryz.prog w = .ok (.tuple #[.agg #[.int .i64 0, .int .i64 0, .int .i64 0, .bool false, .int .i64 0, .int .i64 0, .int .i64 0], .bool false]) w := fun _ => by kernel_rfl
  have a5 : ∀ w : World, (Instr.typeAssert (.iface 136 (.agg #[.int .i64 s, .int .i64 q, .int .i64 n, .bool hS, .int .i64 hH, .int .i64 hL, .string o, .int .i64 sp])) 80 129 true).run Tryz.prog w = .ok (.tuple #[.agg #[.int .i64 0, .int .i64 0, .int .i64 0, .bool false, .int .i64 0, .int .i64 0, .int .i64 0, .string ⟨#[]⟩], .bool false]) w := fun _ => by kernel_rfl
  have a6 : ∀ w : World, (Instr.typeAssert (.iface 136 (.agg #[.int .i64 s, .int .i64 q, .int .i64 n, .bool hS, .int .i64 hH, .int .i64 hL, .string o, .int .i64 sp])) 80 130 true).run Tryz.prog w = .ok (.tuple #[.agg #[.int .i64 0, .int .i64 0, .int .i64 0, .bool false, .int .i64 0, .int .i64 0, .int .i64 0, .string ⟨#[]⟩], .bool false]) w := fun _ => by kernel_rfl
  have a7 : ∀ w : World, (Instr.typeAssert (.iface 136 (.agg #[.int .i64 s, .int .i64 q, .int .i64 n, .bool hS, .int .i64 hH, .int .i64 hL, .string o, .int .i64 sp])) 80 132 true).run Tryz.prog w = .ok (.tuple #[.agg #[.int .i64 0, .int .i64 0, .int .i64 0, .bool false, .int .i64 0, .int .i64 0, .int .i64 0, .string ⟨#[]⟩, .int .i64 0], .bool false]) w := fun _ => by kernel_rfl
  have a8 : ∀ w : World, (Instr.typeAssert (.iface 136 (.agg #[.int .i64 s, .int .i64 q, .int .i64 n, .bool hS, .int .i64 hH, .int .i64 hL, .string o, .int .i64 sp])) 80 136 true).run Tryz.prog w = .ok (.tuple #[.agg #[.int .i64 s, .int .i64 q, .int .i64 n, .bool hS, .int .i64 hH, .int .i64 hL, .string o, .int .i64 sp], .bool true]) w := fun _ => by kernel_rfl
  have CS := hidP (fun w (h : Tabs w) => sessionField_any s HI.out.s w h)
  have CQ := hidP (fun w (h : Tabs w) => seqField_any q HI.out.q w h)
  have CN := hidP (fun w (h : Tabs w) => nowField_any n HI.out.n w h)
  have CH := hidP (fun w (h : Tabs w) => hostField_any hS hH hL TH HTH.out.1 HTH.out.2 w h)
  have CO := hidP (fun w => ownerField_any o HI.out.o w)
  have CP := hidP (fun w (h : Tabs w) => spanField_any sp HI.out.p w h)
  have CW := hidP (fun g m bs w h e1 e2 e3 => with_any s q n HI.out.s HI.out.q HI.out.n g m bs w h e1 e2 e3)
  generalize fT ⟨#[115, 101, 115, 115, 105, 111, 110]⟩ s = TS at *
  generalize rB 1 s 1000000 = rS at *
  generalize fT ⟨#[115, 101, 113]⟩ q = TQ at *
  generalize rB 1 q 1000000 = rQ at *
  generalize fT ⟨#[110, 111, 119]⟩ n = TN at *
  generalize rB 0 n 1000000000 = rN at *
  generalize hT TH = TH at *
  generalize okB hS hH hL = rH at *
  generalize oT o = TO at *
  generalize ownB o = rO at *
  generalize fT ⟨#[115, 112, 97, 110]⟩ sp = TP at *
  generalize rB 1 sp 1000 = rP at *
  clear HI HTH
  go_enter Tryz.func61, Tryz.ntmps61
  go_wp2_with fail
  have u0 : (y.alloc (.cells #[.int .i64 s, .int .i64 q, .int .i64 n, .bool hS, .int .i64 hH, .int .i64 hL, .string o, .int .i64 sp] 136)).cell? ⟨y.heap.size, 0, none⟩ = some (.int .i64 s) := by simp [go_sem]
  have u1 : (y.alloc (.cells #[.int .i64 s, .int .i64 q, .int .i64 n, .bool hS, .int .i64 hH, .int .i64 hL, .string o, .int .i64 sp] 136)).cell? ⟨y.heap.size, 1, none⟩ = some (.int .i64 q) := by simp [go_sem]
  have u2 : (y.alloc (.cells #[.int .i64 s, .int .i64 q, .int .i64 n, .bool hS, .int .i64 hH, .int .i64 hL, .string o, .int .i64 sp] 136)).cell? ⟨y.heap.size, 2, none⟩ = some (.int .i64 n) := by simp [go_sem]
  have u3 : (y.alloc (.cells #[.int .i64 s, .int .i64 q, .int .i64 n, .bool hS, .int .i64 hH, .int .i64 hL, .string o, .int .i64 sp] 136)).cell? ⟨y.heap.size, 3, none⟩ = some (.bool hS) := by simp [go_sem]
  have u4 : (y.alloc (.cells #[.int .i64 s, .int .i64 q, .int .i64 n, .bool hS, .int .i64 hH, .int .i64 hL, .string o, .int .i64 sp] 136)).cell? ⟨y.heap.size, 4, none⟩ = some (.int .i64 hH) := by simp [go_sem]
  have u5 : (y.alloc (.cells #[.int .i64 s, .int .i64 q, .int .i64 n, .bool hS, .int .i64 hH, .int .i64 hL, .string o, .int .i64 sp] 136)).cell? ⟨y.heap.size, 5, none⟩ = some (.int .i64 hL) := by simp [go_sem]
  have u6 : (y.alloc (.cells #[.int .i64 s, .int .i64 q, .int .i64 n, .bool hS, .int .i64 hH, .int .i64 hL, .string o, .int .i64 sp] 136)).cell? ⟨y.heap.size, 6, none⟩ = some (.string o) := by simp [go_sem]
  have u7 : (y.alloc (.cells #[.int .i64 s, .int .i64 q, .int .i64 n, .bool hS, .int .i64 hH, .int .i64 hL, .string o, .int .i64 sp] 136)).cell? ⟨y.heap.size, 7, none⟩ = some (.int .i64 sp) := by simp [go_sem]
  have uL : y.heap.size < (y.alloc (.cells #[.int .i64 s, .int .i64 q, .int .i64 n, .bool hS, .int .i64 hH, .int .i64 hL, .string o, .int .i64 sp] 136)).heap.size := by simp
  have HU := hidP ((Below.refl y.heap.size y).alloc (Nat.le_refl _) (.cells #[.int .i64 s, .int .i64 q, .int .i64 n, .bool hS, .int .i64 hH, .int .i64 hL, .string o, .int .i64 sp] 136))
  generalize y.alloc (.cells #[.int .i64 s, .int .i64 q, .int .i64 n, .bool hS, .int .i64 hH, .int .i64 hL, .string o, .int .i64 sp] 136) = W1 at *
  have hU := HU.out.size
  have HSx : Hid (∀ x, Below W1.heap.size W1 x → (x.cell? ⟨y.heap.size, 0, none⟩ = some (.int .i64 s) ∧ x.cell? ⟨y.heap.size, 1, none⟩ = some (.int .i64 q) ∧ x.cell? ⟨y.heap.size, 2, none⟩ = some (.int .i64 n) ∧ x.cell? ⟨y.heap.size, 3, none⟩ = some (.bool hS) ∧ x.cell? ⟨y.heap.size, 4, none⟩ = some (.int .i64 hH) ∧ x.cell? ⟨y.heap.size, 5, none⟩ = some (.int .i64 hL) ∧ x.cell? ⟨y.heap.size, 6, none⟩ = some (.string o) ∧ x.cell? ⟨y.heap.size, 7, none⟩ = some (.int .i64 sp) ∧ Below W1.heap.size W1 x)) := hidP fun x h =>
    ⟨(h.cell uL).trans u0, (h.cell uL).trans u1, (h.cell uL).trans u2, (h.cell uL).trans u3, (h.cell uL).trans u4, (h.cell uL).trans u5, (h.cell uL).trans u6, (h.cell uL).trans u7, h⟩
  refine wp_region_held_drew (S := (fun x => x.cell? ⟨y.heap.size, 0, none⟩ = some (.int .i64 s) ∧ x.cell? ⟨y.heap.size, 1, none⟩ = some (.int .i64 q) ∧ x.cell? ⟨y.heap.size, 2, none⟩ = some (.int .i64 n) ∧ x.cell? ⟨y.heap.size, 3, none⟩ = some (.bool hS) ∧ x.cell? ⟨y.heap.size, 4, none⟩ = some (.int .i64 hH) ∧ x.cell? ⟨y.heap.size, 5, none⟩ = some (.int .i64 hL) ∧ x.cell? ⟨y.heap.size, 6, none⟩ = some (.string o) ∧ x.cell? ⟨y.heap.size, 7, none⟩ = some (.int .i64 sp) ∧ Below W1.heap.size W1 x)) (by kernel_rfl) ?_ (fun hHeld => ?_)
  · try dsimp only
    exact HSx.out _ ((Below.refl _ _).drew)
  refine tkA 0 100 (v := ?_) rfl (by kernel_rfl) (fun _ _ _ h => h) (by rfl) ?_ (by assumption) ?_; rotate_left; · (intro w hSw; (try dsimp only at hSw); go_simp; try with_reducible rfl)
  simp only [pa]
  refine tkA 1 101 (v := ?_) rfl (by kernel_rfl) (fun _ _ _ h => h) (by rfl) ?_ (by assumption) ?_; rotate_left; · (intro w hSw; (try dsimp only at hSw); go_simp; try with_reducible rfl)
  simp only [pa]
  refine tkA 2 102 (v := ?_) rfl (by kernel_rfl) (fun _ _ _ h => h) (by rfl) ?_ (by assumption) ?_; rotate_left; · (intro w hSw; (try dsimp only at hSw); go_simp; try with_reducible rfl)
  simp only [pa]
  refine tkA 3 103 (v := ?_) rfl (by kernel_rfl) (fun _ _ _ h => h) (by rfl) ?_ (by assumption) ?_; rotate_left; · (intro w hSw; (try dsimp only at hSw); go_simp; try with_reducible rfl)
  simp only [pa]
  refine tkA 5 105 (v := ?_) rfl (by kernel_rfl) (fun _ _ _ h => h) (by rfl) ?_ (by assumption) ?_; rotate_left; · (intro w hSw; (try dsimp only at hSw); go_simp; try with_reducible rfl)
  simp only [pa]
  refine tkA 6 106 (v := ?_) rfl (by kernel_rfl) (fun _ _ _ h => h) (by rfl) ?_ (by assumption) ?_; rotate_left; · (intro w hSw; (try dsimp only at hSw); go_simp; try with_reducible rfl)
  simp only [pa]
  refine tkA 8 108 (v := ?_) rfl (by kernel_rfl) (fun _ _ _ h => h) (by rfl) ?_ (by assumption) ?_; rotate_left; · (intro w hSw; (try dsimp only at hSw); go_simp; try with_reducible rfl)
  simp only [pa]
  refine tkA 9 109 (v := ?_) rfl (by kernel_rfl) (fun _ _ _ h => h) (by rfl) ?_ (by assumption) ?_; rotate_left; · (intro w hSw; (try dsimp only at hSw); go_simp; try with_reducible rfl)
  simp only [pa]
  refine wpAnyH_ready (rs := [4]) (by kernel_rfl) (by simp) ?_
  refine AllReadyH.cons rfl (fun K hK => ?_) AllReadyH.nil
  go_simp
  go_wp2_with (first | (go_at_call 80; refine (CH.out _ (HT.out.below (HU.out.trans ((hHeld.2.2.2.2.2.2.2.2).mono hU)))).mono ?_; rintro e w2 ⟨rfl, hb2⟩; have b2 := (hHeld.2.2.2.2.2.2.2.2).trans (hb2.mono (hHeld.2.2.2.2.2.2.2.2).size)))
  refine hK.out _ _ ?_ (fun hHeld => ?_)
  · try dsimp only
    exact HSx.out _ b2
  clear hK K
  refine wpAnyH_ready (rs := [7]) (by kernel_rfl) (by simp) ?_
  refine AllReadyH.cons rfl (fun K hK => ?_) AllReadyH.nil
  go_simp
  go_wp2_with (first | (go_at_call 78; refine (CO.out _).mono ?_; rintro e w3 ⟨rfl, hb3⟩; have b3 := (hHeld.2.2.2.2.2.2.2.2).trans (hb3.mono (hHeld.2.2.2.2.2.2.2.2).size)))
  refine hK.out _ _ ?_ (fun hHeld => ?_)
  · try dsimp only
    exact HSx.out _ b3
  clear hK K
  refine wpAnyH_ready (rs := [10]) (by kernel_rfl) (by simp) ?_
  refine AllReadyH.cons rfl (fun K hK => ?_) AllReadyH.nil
  go_simp
  go_wp2_with (first | (go_at_call 79; refine (CP.out _ (HT.out.below (HU.out.trans ((hHeld.2.2.2.2.2.2.2.2).mono hU)))).mono ?_; rintro e w4 ⟨rfl, hb4⟩; have b4 := (hHeld.2.2.2.2.2.2.2.2).trans (hb4.mono (hHeld.2.2.2.2.2.2.2.2).size)))
  refine hK.out _ _ ?_ (fun hHeld => ?_)
  · try dsimp only
    exact HSx.out _ b4
  clear hK K
  refine wpAnyH_ready (rs := [11]) (by kernel_rfl) (by simp) ?_
  refine AllReadyH.cons rfl (fun K hK => ?_) AllReadyH.nil
  go_simp
  have bA := (hHeld.2.2.2.2.2.2.2.2).alloc (hHeld.2.2.2.2.2.2.2.2).size (.cells #[.string TH, .bool rH, .string TO, .bool rO, .string TP, .bool rP] 106)
  refine hK.out _ _ ?_ (fun hHeld => ?_)
  · try dsimp only
    exact HSx.out _ bA
  clear hK K
  refine wpAnyH_ready (rs := [12]) (by kernel_rfl) (by simp) ?_
  refine AllReadyH.cons rfl (fun K hK => ?_) AllReadyH.nil
  go_simp
  go_wp2_with (first | (go_at_call 75; refine (CW.out w4.heap.size 3 [(TH, rH), (TO, rO), (TP, rP)] _ (HT.out.below (HU.out.trans ((hHeld.2.2.2.2.2.2.2.2).mono hU))) rfl (by omega) (own_manyG KF w4 0 106 [(TH, rH), (TO, rO), (TP, rP)] #[.string TH, .bool rH, .string TO, .bool rO, .string TP, .bool rP] rfl 3 rfl (by omega) (Nat.zero_le _)).row).mono ?_; rintro e w5 ⟨a9, c9, rfl, ho9, hb5⟩; have b5 := (hHeld.2.2.2.2.2.2.2.2).trans (hb5.mono (hHeld.2.2.2.2.2.2.2.2).size)))
  refine hK.out _ _ ?_ (fun hHeld => ?_)
  · try dsimp only
    exact HSx.out _ b5
  clear hK K
  refine tkA 13 2 (v := ?_) rfl (by kernel_rfl) (fun _ _ _ h => h) (by rfl) ?_ (by assumption) ?_; rotate_left; · (intro w hSw; (try dsimp only at hSw); go_simp; try with_reducible rfl)
  simp only [Act.put, List.setIfInBounds_toArray]
  have HE := hidP (hHeld.2.2.2.2.2.2.2.2)
  refine wpAnyH_done (by kernel_rfl) ?_ _
  clear hHeld
  have hA := bA.size
  go_wp2_with fail
  go_ret
  exact ⟨a9, c9, by simp, ho9.mono (by simp; simp at hA; omega), HU.out.trans (HE.out.mono hU)⟩

set_option maxRecDepth 10000 in
set_option maxHeartbeats 4000000 in
theorem fo_9 (s q n : Int) (aS : Bool) (aH aL : BitVec 64) (ab b : Int) (hS : Bool) (hH hL : Int) (o : ByteArray) (t sp : Int) (TA TH : List UInt8) (HI : Hid (CmI s q n b t sp o)) (_ : Hid (TA.length ≤ 200 ∧ ∀ w : World, Tabs w → Calls Tryz.prog 84 #[.agg #[.bool aS, .int .i64 aH.toInt, .int .i64 aL.toInt, .int .i64 ab]] w fun e w' => e = .returned (.string ⟨TA.toArray⟩) ∧ Below w.heap.size w w')) (HTH : Hid (TH.length ≤ 200 ∧ ∀ w : World, Tabs w → Calls Tryz.prog 87 #[.agg #[.bool hS, .int .i64 hH, .int .i64 hL]] w fun e w' => e = .returned (.string ⟨TH.toArray⟩) ∧ Below w.heap.size w w')) (y : World) (ht : Tabs y) :
    Calls Tryz.prog 61 #[.iface 138 (.agg #[.int .i64 s, .int .i64 q, .int .i64 n, .bool hS, .int .i64 hH, .int .i64 hL, .int .i64 t, .int .i64 sp])] y fun e w' => ∃ a c, e = .returned (.slice a 6 c) ∧ OwnG KF 106 w' y.heap.size (.slice a 6 c) [((fT ⟨#[115, 101, 115, 115, 105, 111, 110]⟩ s), (rB 1 s 1000000)), ((fT ⟨#[115, 101, 113]⟩ q), (rB 1 q 1000000)), ((fT ⟨#[110, 111, 119]⟩ n), (rB 0 n 1000000000)), ((hT TH), (okB hS hH hL)), ((fT ⟨#[116, 111, 107, 101, 110]⟩ t), (rB 1 t 1000000000)), ((fT ⟨#[115, 112, 97, 110]⟩ sp), (rB 1 sp 1000))] ∧ Below y.heap.size y w' := by
  have HT := hidP ht
  clear ht
  have a1 : ∀ w : World, (Instr.typeAssert (.iface 138 (.agg #[.int .i64 s, .int .i64 q, .int .i64 n, .bool hS, .int .i64 hH, .int .i64 hL, .int .i64 t, .int .i64 sp])) 80 114 true).run Tryz.prog w = .ok (.tuple #[.agg #[.int .i64 0], .bool false]) w := fun _ => by kernel_rfl
  have a2 : ∀ w : World, (Instr.typeAssert (.iface 138 (.agg #[.int .i64 s, .int .i64 q, .int .i64 n, .bool hS, .int .i64 hH, .int .i64 hL, .int .i64 t, .int .i64 sp])) 80 116 true).run Tryz.prog w = .ok (.tuple #[.agg #[.int .i64 0, .int .i64 0], .bool false]) w := fun _ => by kernel_rfl
  have a3 : ∀ w : World, (Instr.typeAssert (.iface 138 (.agg #[.int .i64 s, .int .i64 q, .int .i64 n, .bool hS, .int .i64 hH, .int .i64 hL, .int .i64 t, .int .i64 sp])) 80 123 true).run Tryz.prog w = .ok (.tuple #[.agg #[.int .i64 0, .int .i64 0, .int .i64 0, .bool false, .int .i64 0, .int .i64 0, .int .i64 0, .int .i64 0], .bool false]) w := fun _ => by kernel_rfl
  have a4 : ∀ w : World, (Instr.typeAssert (.iface 138 (.agg #[.int .i64 s, .int .i64 q, .int .i64 n, .bool hS, .int .i64 hH, .int .i64 hL, .int .i64 t, .int .i64 sp])) 80 125 true).run Tryz.prog w = .ok (.tuple #[.agg #[.int .i64 0, .int .i64 0, .int .i64 0, .bool false, .int .i64 0, .int .i64 0, .int .i64 0], .bool false]) w := fun _ => by kernel_rfl
  have a5 : ∀ w : World, (Instr.typeAssert (.iface 138 (.agg #[.int .i64 s, .int .i64 q, .int .i64 n, .bool hS, .int .i64 hH, .int .i64 hL, .int .i64 t, .int .i64 sp])) 80 129 true).run Tryz.prog w = .ok (.tuple #[.agg #[.int .i64 0, .int .i64 0, .int .i64 0, .bool false, .int .i64 0, .int .i64 0, .int .i64 0, .string ⟨#[]⟩], .bool false]) w := fun _ => by kernel_rfl
  have a6 : ∀ w : World, (Instr.typeAssert (.iface 138 (.agg #[.int .i64 s, .int .i64 q, .int .i64 n, .bool hS, .int .i64 hH, .int .i64 hL, .int .i64 t, .int .i64 sp])) 80 130 true).run Tryz.prog w = .ok (.tuple #[.agg #[.int .i64 0, .int .i64 0, .int .i64 0, .bool false, .int .i64 0, .int .i64 0, .int .i64 0, .string ⟨#[]⟩], .bool false]) w := fun _ => by kernel_rfl
  have a7 : ∀ w : World, (Instr.typeAssert (.iface 138 (.agg #[.int .i64 s, .int .i64 q, .int .i64 n, .bool hS, .int .i64 hH, .int .i64 hL, .int .i64 t, .int .i64 sp])) 80 132 true).run Tryz.prog w = .ok (.tuple #[.agg #[.int .i64 0, .int .i64 0, .int .i64 0, .bool false, .int .i64 0, .int .i64 0, .int .i64 0, .string ⟨#[]⟩, .int .i64 0], .bool false]) w := fun _ => by kernel_rfl
  have a8 : ∀ w : World, (Instr.typeAssert (.iface 138 (.agg #[.int .i64 s, .int .i64 q, .int .i64 n, .bool hS, .int .i64 hH, .int .i64 hL, .int .i64 t, .int .i64 sp])) 80 136 true).run Tryz.prog w = .ok (.tuple #[.agg #[.int .i64 0, .int .i64 0, .int .i64 0, .bool false, .int .i64 0, .int .i64 0, .string ⟨#[]⟩, .int .i64 0], .bool false]) w := fun _ => by kernel_rfl
  have a9 : ∀ w : World, (Instr.typeAssert (.iface 138 (.agg #[.int .i64 s, .int .i64 q, .int .i64 n, .bool hS, .int .i64 hH, .int .i64 hL, .int .i64 t, .int .i64 sp])) 80 138 true).run Tryz.prog w = .ok (.tuple #[.agg #[.int .i64 s, .int .i64 q, .int .i64 n, .bool hS, .int .i64 hH, .int .i64 hL, .int .i64 t, .int .i64 sp], .bool true]) w := fun _ => by kernel_rfl
  have CS := hidP (fun w (h : Tabs w) => sessionField_any s HI.out.s w h)
  have CQ := hidP (fun w (h : Tabs w) => seqField_any q HI.out.q w h)
  have CN := hidP (fun w (h : Tabs w) => nowField_any n HI.out.n w h)
  have CH := hidP (fun w (h : Tabs w) => hostField_any hS hH hL TH HTH.out.1 HTH.out.2 w h)
  have CT := hidP (fun w (h : Tabs w) => tokenField_any t HI.out.t w h)
  have CP := hidP (fun w (h : Tabs w) => spanField_any sp HI.out.p w h)
  have CW := hidP (fun g m bs w h e1 e2 e3 => with_any s q n HI.out.s HI.out.q HI.out.n g m bs w h e1 e2 e3)
  generalize fT ⟨#[115, 101, 115, 115, 105, 111, 110]⟩ s = TS at *
  generalize rB 1 s 1000000 = rS at *
  generalize fT ⟨#[115, 101, 113]⟩ q = TQ at *
  generalize rB 1 q 1000000 = rQ at *
  generalize fT ⟨#[110, 111, 119]⟩ n = TN at *
  generalize rB 0 n 1000000000 = rN at *
  generalize hT TH = TH at *
  generalize okB hS hH hL = rH at *
  generalize fT ⟨#[116, 111, 107, 101, 110]⟩ t = TT at *
  generalize rB 1 t 1000000000 = rT at *
  generalize fT ⟨#[115, 112, 97, 110]⟩ sp = TP at *
  generalize rB 1 sp 1000 = rP at *
  clear HI HTH
  go_enter Tryz.func61, Tryz.ntmps61
  go_wp2_with fail
  have u0 : (y.alloc (.cells #[.int .i64 s, .int .i64 q, .int .i64 n, .bool hS, .int .i64 hH, .int .i64 hL, .int .i64 t, .int .i64 sp] 138)).cell? ⟨y.heap.size, 0, none⟩ = some (.int .i64 s) := by simp [go_sem]
  have u1 : (y.alloc (.cells #[.int .i64 s, .int .i64 q, .int .i64 n, .bool hS, .int .i64 hH, .int .i64 hL, .int .i64 t, .int .i64 sp] 138)).cell? ⟨y.heap.size, 1, none⟩ = some (.int .i64 q) := by simp [go_sem]
  have u2 : (y.alloc (.cells #[.int .i64 s, .int .i64 q, .int .i64 n, .bool hS, .int .i64 hH, .int .i64 hL, .int .i64 t, .int .i64 sp] 138)).cell? ⟨y.heap.size, 2, none⟩ = some (.int .i64 n) := by simp [go_sem]
  have u3 : (y.alloc (.cells #[.int .i64 s, .int .i64 q, .int .i64 n, .bool hS, .int .i64 hH, .int .i64 hL, .int .i64 t, .int .i64 sp] 138)).cell? ⟨y.heap.size, 3, none⟩ = some (.bool hS) := by simp [go_sem]
  have u4 : (y.alloc (.cells #[.int .i64 s, .int .i64 q, .int .i64 n, .bool hS, .int .i64 hH, .int .i64 hL, .int .i64 t, .int .i64 sp] 138)).cell? ⟨y.heap.size, 4, none⟩ = some (.int .i64 hH) := by simp [go_sem]
  have u5 : (y.alloc (.cells #[.int .i64 s, .int .i64 q, .int .i64 n, .bool hS, .int .i64 hH, .int .i64 hL, .int .i64 t, .int .i64 sp] 138)).cell? ⟨y.heap.size, 5, none⟩ = some (.int .i64 hL) := by simp [go_sem]
  have u6 : (y.alloc (.cells #[.int .i64 s, .int .i64 q, .int .i64 n, .bool hS, .int .i64 hH, .int .i64 hL, .int .i64 t, .int .i64 sp] 138)).cell? ⟨y.heap.size, 6, none⟩ = some (.int .i64 t) := by simp [go_sem]
  have u7 : (y.alloc (.cells #[.int .i64 s, .int .i64 q, .int .i64 n, .bool hS, .int .i64 hH, .int .i64 hL, .int .i64 t, .int .i64 sp] 138)).cell? ⟨y.heap.size, 7, none⟩ = some (.int .i64 sp) := by simp [go_sem]
  have uL : y.heap.size < (y.alloc (.cells #[.int .i64 s, .int .i64 q, .int .i64 n, .bool hS, .int .i64 hH, .int .i64 hL, .int .i64 t, .int .i64 sp] 138)).heap.size := by simp
  have HU := hidP ((Below.refl y.heap.size y).alloc (Nat.le_refl _) (.cells #[.int .i64 s, .int .i64 q, .int .i64 n, .bool hS, .int .i64 hH, .int .i64 hL, .int .i64 t, .int .i64 sp] 138))
  generalize y.alloc (.cells #[.int .i64 s, .int .i64 q, .int .i64 n, .bool hS, .int .i64 hH, .int .i64 hL, .int .i64 t, .int .i64 sp] 138) = W1 at *
  have hU := HU.out.size
  have HSx : Hid (∀ x, Below W1.heap.size W1 x → (x.cell? ⟨y.heap.size, 0, none⟩ = some (.int .i64 s) ∧ x.cell? ⟨y.heap.size, 1, none⟩ = some (.int .i64 q) ∧ x.cell? ⟨y.heap.size, 2, none⟩ = some (.int .i64 n) ∧ x.cell? ⟨y.heap.size, 3, none⟩ = some (.bool hS) ∧ x.cell? ⟨y.heap.size, 4, none⟩ = some (.int .i64 hH) ∧ x.cell? ⟨y.heap.size, 5, none⟩ = some (.int .i64 hL) ∧ x.cell? ⟨y.heap.size, 6, none⟩ = some (.int .i64 t) ∧ x.cell? ⟨y.heap.size, 7, none⟩ = some (.int .i64 sp) ∧ Below W1.heap.size W1 x)) := hidP fun x h =>
    ⟨(h.cell uL).trans u0, (h.cell uL).trans u1, (h.cell uL).trans u2, (h.cell uL).trans u3, (h.cell uL).trans u4, (h.cell uL).trans u5, (h.cell uL).trans u6, (h.cell uL).trans u7, h⟩
  refine wp_region_held_drew (S := (fun x => x.cell? ⟨y.heap.size, 0, none⟩ = some (.int .i64 s) ∧ x.cell? ⟨y.heap.size, 1, none⟩ = some (.int .i64 q) ∧ x.cell? ⟨y.heap.size, 2, none⟩ = some (.int .i64 n) ∧ x.cell? ⟨y.heap.size, 3, none⟩ = some (.bool hS) ∧ x.cell? ⟨y.heap.size, 4, none⟩ = some (.int .i64 hH) ∧ x.cell? ⟨y.heap.size, 5, none⟩ = some (.int .i64 hL) ∧ x.cell? ⟨y.heap.size, 6, none⟩ = some (.int .i64 t) ∧ x.cell? ⟨y.heap.size, 7, none⟩ = some (.int .i64 sp) ∧ Below W1.heap.size W1 x)) (by kernel_rfl) ?_ (fun hHeld => ?_)
  · try dsimp only
    exact HSx.out _ ((Below.refl _ _).drew)
  refine tkA 0 116 (v := ?_) rfl (by kernel_rfl) (fun _ _ _ h => h) (by rfl) ?_ (by assumption) ?_; rotate_left; · (intro w hSw; (try dsimp only at hSw); go_simp; try with_reducible rfl)
  simp only [pa]
  refine tkA 1 117 (v := ?_) rfl (by kernel_rfl) (fun _ _ _ h => h) (by rfl) ?_ (by assumption) ?_; rotate_left; · (intro w hSw; (try dsimp only at hSw); go_simp; try with_reducible rfl)
  simp only [pa]
  refine tkA 2 118 (v := ?_) rfl (by kernel_rfl) (fun _ _ _ h => h) (by rfl) ?_ (by assumption) ?_; rotate_left; · (intro w hSw; (try dsimp only at hSw); go_simp; try with_reducible rfl)
  simp only [pa]
  refine tkA 3 119 (v := ?_) rfl (by kernel_rfl) (fun _ _ _ h => h) (by rfl) ?_ (by assumption) ?_; rotate_left; · (intro w hSw; (try dsimp only at hSw); go_simp; try with_reducible rfl)
  simp only [pa]
  refine tkA 5 121 (v := ?_) rfl (by kernel_rfl) (fun _ _ _ h => h) (by rfl) ?_ (by assumption) ?_; rotate_left; · (intro w hSw; (try dsimp only at hSw); go_simp; try with_reducible rfl)
  simp only [pa]
  refine tkA 6 122 (v := ?_) rfl (by kernel_rfl) (fun _ _ _ h => h) (by rfl) ?_ (by assumption) ?_; rotate_left; · (intro w hSw; (try dsimp only at hSw); go_simp; try with_reducible rfl)
  simp only [pa]
  refine tkA 8 124 (v := ?_) rfl (by kernel_rfl) (fun _ _ _ h => h) (by rfl) ?_ (by assumption) ?_; rotate_left; · (intro w hSw; (try dsimp only at hSw); go_simp; try with_reducible rfl)
  simp only [pa]
  refine tkA 9 125 (v := ?_) rfl (by kernel_rfl) (fun _ _ _ h => h) (by rfl) ?_ (by assumption) ?_; rotate_left; · (intro w hSw; (try dsimp only at hSw); go_simp; try with_reducible rfl)
  simp only [pa]
  refine wpAnyH_ready (rs := [4]) (by kernel_rfl) (by simp) ?_
  refine AllReadyH.cons rfl (fun K hK => ?_) AllReadyH.nil
  go_simp
  go_wp2_with (first | (go_at_call 80; refine (CH.out _ (HT.out.below (HU.out.trans ((hHeld.2.2.2.2.2.2.2.2).mono hU)))).mono ?_; rintro e w2 ⟨rfl, hb2⟩; have b2 := (hHeld.2.2.2.2.2.2.2.2).trans (hb2.mono (hHeld.2.2.2.2.2.2.2.2).size)))
  refine hK.out _ _ ?_ (fun hHeld => ?_)
  · try dsimp only
    exact HSx.out _ b2
  clear hK K
  refine wpAnyH_ready (rs := [7]) (by kernel_rfl) (by simp) ?_
  refine AllReadyH.cons rfl (fun K hK => ?_) AllReadyH.nil
  go_simp
  go_wp2_with (first | (go_at_call 81; refine (CT.out _ (HT.out.below (HU.out.trans ((hHeld.2.2.2.2.2.2.2.2).mono hU)))).mono ?_; rintro e w3 ⟨rfl, hb3⟩; have b3 := (hHeld.2.2.2.2.2.2.2.2).trans (hb3.mono (hHeld.2.2.2.2.2.2.2.2).size)))
  refine hK.out _ _ ?_ (fun hHeld => ?_)
  · try dsimp only
    exact HSx.out _ b3
  clear hK K
  refine wpAnyH_ready (rs := [10]) (by kernel_rfl) (by simp) ?_
  refine AllReadyH.cons rfl (fun K hK => ?_) AllReadyH.nil
  go_simp
  go_wp2_with (first | (go_at_call 79; refine (CP.out _ (HT.out.below (HU.out.trans ((hHeld.2.2.2.2.2.2.2.2).mono hU)))).mono ?_; rintro e w4 ⟨rfl, hb4⟩; have b4 := (hHeld.2.2.2.2.2.2.2.2).trans (hb4.mono (hHeld.2.2.2.2.2.2.2.2).size)))
  refine hK.out _ _ ?_ (fun hHeld => ?_)
  · try dsimp only
    exact HSx.out _ b4
  clear hK K
  refine wpAnyH_ready (rs := [11]) (by kernel_rfl) (by simp) ?_
  refine AllReadyH.cons rfl (fun K hK => ?_) AllReadyH.nil
  go_simp
  have bA := (hHeld.2.2.2.2.2.2.2.2).alloc (hHeld.2.2.2.2.2.2.2.2).size (.cells #[.string TH, .bool rH, .string TT, .bool rT, .string TP, .bool rP] 106)
  refine hK.out _ _ ?_ (fun hHeld => ?_)
  · try dsimp only
    exact HSx.out _ bA
  clear hK K
  refine wpAnyH_ready (rs := [12]) (by kernel_rfl) (by simp) ?_
  refine AllReadyH.cons rfl (fun K hK => ?_) AllReadyH.nil
  go_simp
  go_wp2_with (first | (go_at_call 75; refine (CW.out w4.heap.size 3 [(TH, rH), (TT, rT), (TP, rP)] _ (HT.out.below (HU.out.trans ((hHeld.2.2.2.2.2.2.2.2).mono hU))) rfl (by omega) (own_manyG KF w4 0 106 [(TH, rH), (TT, rT), (TP, rP)] #[.string TH, .bool rH, .string TT, .bool rT, .string TP, .bool rP] rfl 3 rfl (by omega) (Nat.zero_le _)).row).mono ?_; rintro e w5 ⟨a9, c9, rfl, ho9, hb5⟩; have b5 := (hHeld.2.2.2.2.2.2.2.2).trans (hb5.mono (hHeld.2.2.2.2.2.2.2.2).size)))
  refine hK.out _ _ ?_ (fun hHeld => ?_)
  · try dsimp only
    exact HSx.out _ b5
  clear hK K
  refine tkA 13 2 (v := ?_) rfl (by kernel_rfl) (fun _ _ _ h => h) (by rfl) ?_ (by assumption) ?_; rotate_left; · (intro w hSw; (try dsimp only at hSw); go_simp; try with_reducible rfl)
  simp only [Act.put, List.setIfInBounds_toArray]
  have HE := hidP (hHeld.2.2.2.2.2.2.2.2)
  refine wpAnyH_done (by kernel_rfl) ?_ _
  clear hHeld
  have hA := bA.size
  go_wp2_with fail
  go_ret
  exact ⟨a9, c9, by simp, ho9.mono (by simp; simp at hA; omega), HU.out.trans (HE.out.mono hU)⟩

set_option maxRecDepth 10000 in
set_option maxHeartbeats 4000000 in
theorem fo_10 (s q n : Int) (aS : Bool) (aH aL : BitVec 64) (ab b : Int) (hS : Bool) (hH hL : Int) (o : ByteArray) (t sp : Int) (TA TH : List UInt8) (HI : Hid (CmI s q n b t sp o)) (_ : Hid (TA.length ≤ 200 ∧ ∀ w : World, Tabs w → Calls Tryz.prog 84 #[.agg #[.bool aS, .int .i64 aH.toInt, .int .i64 aL.toInt, .int .i64 ab]] w fun e w' => e = .returned (.string ⟨TA.toArray⟩) ∧ Below w.heap.size w w')) (HTH : Hid (TH.length ≤ 200 ∧ ∀ w : World, Tabs w → Calls Tryz.prog 87 #[.agg #[.bool hS, .int .i64 hH, .int .i64 hL]] w fun e w' => e = .returned (.string ⟨TH.toArray⟩) ∧ Below w.heap.size w w')) (y : World) (ht : Tabs y) :
    Calls Tryz.prog 61 #[.iface 140 (.agg #[.int .i64 s, .int .i64 q, .int .i64 n, .bool hS, .int .i64 hH, .int .i64 hL, .int .i64 t])] y fun e w' => ∃ a c, e = .returned (.slice a 5 c) ∧ OwnG KF 106 w' y.heap.size (.slice a 5 c) [((fT ⟨#[115, 101, 115, 115, 105, 111, 110]⟩ s), (rB 1 s 1000000)), ((fT ⟨#[115, 101, 113]⟩ q), (rB 1 q 1000000)), ((fT ⟨#[110, 111, 119]⟩ n), (rB 0 n 1000000000)), ((hT TH), (okB hS hH hL)), ((fT ⟨#[116, 111, 107, 101, 110]⟩ t), (rB 1 t 1000000000))] ∧ Below y.heap.size y w' := by
  have HT := hidP ht
  clear ht
  have a1 : ∀ w : World, (Instr.typeAssert (.iface 140 (.agg #[.int .i64 s, .int .i64 q, .int .i64 n, .bool hS, .int .i64 hH, .int .i64 hL, .int .i64 t])) 80 114 true).run Tryz.prog w = .ok (.tuple #[.agg #[.int .i64 0], .bool false]) w := fun _ => by kernel_rfl
  have a2 : ∀ w : World, (Instr.typeAssert (.iface 140 (.agg #[.int .i64 s, .int .i64 q, .int .i64 n, .bool hS, .int .i64 hH, .int .i64 hL, .int .i64 t])) 80 116 true).run Tryz.prog w = .ok (.tuple #[.agg #[.int .i64 0, .int .i64 0], .bool false]) w := fun _ => by kernel_rfl
  have a3 : ∀ w : World, (Instr.typeAssert (.iface 140 (.agg #[.int .i64 s, .int .i64 q, .int .i64 n, .bool hS, .int .i64 hH, .int .i64 hL, .int .i64 t])) 80 123 true).run Tryz.prog w = .ok (.tuple #[.agg #[.int .i64 0, .int .i64 0, .int .i64 0, .bool false, .int .i64 0, .int .i64 0, .int .i64 0, .int .i64 0], .bool false]) w := fun _ => by kernel_rfl
  have a4 : ∀ w : World, (Instr.typeAssert (.iface 140 (.agg #[.int .i64 s, .int .i64 q, .int .i64 n, .bool hS, .int .i64 hH, .int .i64 hL, .int .i64 t])) 80 125 true).run Tryz.prog w = .ok (.tuple #[.agg #[.int .i64 0, .int .i64 0, .int .i64 0, .bool false, .int .i64 0, .int .i64 0, .int .i64 0], .bool false]) w := fun _ => by kernel_rfl
  have a5 : ∀ w : World, (Instr.typeAssert (.iface 140 (.agg #[.int .i64 s, .int .i64 q, .int .i64 n, .bool hS, .int .i64 hH, .int .i64 hL, .int .i64 t])) 80 129 true).run Tryz.prog w = .ok (.tuple #[.agg #[.int .i64 0, .int .i64 0, .int .i64 0, .bool false, .int .i64 0, .int .i64 0, .int .i64 0, .string ⟨#[]⟩], .bool false]) w := fun _ => by kernel_rfl
  have a6 : ∀ w : World, (Instr.typeAssert (.iface 140 (.agg #[.int .i64 s, .int .i64 q, .int .i64 n, .bool hS, .int .i64 hH, .int .i64 hL, .int .i64 t])) 80 130 true).run Tryz.prog w = .ok (.tuple #[.agg #[.int .i64 0, .int .i64 0, .int .i64 0, .bool false, .int .i64 0, .int .i64 0, .int .i64 0, .string ⟨#[]⟩], .bool false]) w := fun _ => by kernel_rfl
  have a7 : ∀ w : World, (Instr.typeAssert (.iface 140 (.agg #[.int .i64 s, .int .i64 q, .int .i64 n, .bool hS, .int .i64 hH, .int .i64 hL, .int .i64 t])) 80 132 true).run Tryz.prog w = .ok (.tuple #[.agg #[.int .i64 0, .int .i64 0, .int .i64 0, .bool false, .int .i64 0, .int .i64 0, .int .i64 0, .string ⟨#[]⟩, .int .i64 0], .bool false]) w := fun _ => by kernel_rfl
  have a8 : ∀ w : World, (Instr.typeAssert (.iface 140 (.agg #[.int .i64 s, .int .i64 q, .int .i64 n, .bool hS, .int .i64 hH, .int .i64 hL, .int .i64 t])) 80 136 true).run Tryz.prog w = .ok (.tuple #[.agg #[.int .i64 0, .int .i64 0, .int .i64 0, .bool false, .int .i64 0, .int .i64 0, .string ⟨#[]⟩, .int .i64 0], .bool false]) w := fun _ => by kernel_rfl
  have a9 : ∀ w : World, (Instr.typeAssert (.iface 140 (.agg #[.int .i64 s, .int .i64 q, .int .i64 n, .bool hS, .int .i64 hH, .int .i64 hL, .int .i64 t])) 80 138 true).run Tryz.prog w = .ok (.tuple #[.agg #[.int .i64 0, .int .i64 0, .int .i64 0, .bool false, .int .i64 0, .int .i64 0, .int .i64 0, .int .i64 0], .bool false]) w := fun _ => by kernel_rfl
  have a10 : ∀ w : World, (Instr.typeAssert (.iface 140 (.agg #[.int .i64 s, .int .i64 q, .int .i64 n, .bool hS, .int .i64 hH, .int .i64 hL, .int .i64 t])) 80 140 true).run Tryz.prog w = .ok (.tuple #[.agg #[.int .i64 s, .int .i64 q, .int .i64 n, .bool hS, .int .i64 hH, .int .i64 hL, .int .i64 t], .bool true]) w := fun _ => by kernel_rfl
  have CS := hidP (fun w (h : Tabs w) => sessionField_any s HI.out.s w h)
  have CQ := hidP (fun w (h : Tabs w) => seqField_any q HI.out.q w h)
  have CN := hidP (fun w (h : Tabs w) => nowField_any n HI.out.n w h)
  have CH := hidP (fun w (h : Tabs w) => hostField_any hS hH hL TH HTH.out.1 HTH.out.2 w h)
  have CT := hidP (fun w (h : Tabs w) => tokenField_any t HI.out.t w h)
  have CW := hidP (fun g m bs w h e1 e2 e3 => with_any s q n HI.out.s HI.out.q HI.out.n g m bs w h e1 e2 e3)
  generalize fT ⟨#[115, 101, 115, 115, 105, 111, 110]⟩ s = TS at *
  generalize rB 1 s 1000000 = rS at *
  generalize fT ⟨#[115, 101, 113]⟩ q = TQ at *
  generalize rB 1 q 1000000 = rQ at *
  generalize fT ⟨#[110, 111, 119]⟩ n = TN at *
  generalize rB 0 n 1000000000 = rN at *
  generalize hT TH = TH at *
  generalize okB hS hH hL = rH at *
  generalize fT ⟨#[116, 111, 107, 101, 110]⟩ t = TT at *
  generalize rB 1 t 1000000000 = rT at *
  clear HI HTH
  go_enter Tryz.func61, Tryz.ntmps61
  go_wp2_with fail
  have u0 : (y.alloc (.cells #[.int .i64 s, .int .i64 q, .int .i64 n, .bool hS, .int .i64 hH, .int .i64 hL, .int .i64 t] 140)).cell? ⟨y.heap.size, 0, none⟩ = some (.int .i64 s) := by simp [go_sem]
  have u1 : (y.alloc (.cells #[.int .i64 s, .int .i64 q, .int .i64 n, .bool hS, .int .i64 hH, .int .i64 hL, .int .i64 t] 140)).cell? ⟨y.heap.size, 1, none⟩ = some (.int .i64 q) := by simp [go_sem]
  have u2 : (y.alloc (.cells #[.int .i64 s, .int .i64 q, .int .i64 n, .bool hS, .int .i64 hH, .int .i64 hL, .int .i64 t] 140)).cell? ⟨y.heap.size, 2, none⟩ = some (.int .i64 n) := by simp [go_sem]
  have u3 : (y.alloc (.cells #[.int .i64 s, .int .i64 q, .int .i64 n, .bool hS, .int .i64 hH, .int .i64 hL, .int .i64 t] 140)).cell? ⟨y.heap.size, 3, none⟩ = some (.bool hS) := by simp [go_sem]
  have u4 : (y.alloc (.cells #[.int .i64 s, .int .i64 q, .int .i64 n, .bool hS, .int .i64 hH, .int .i64 hL, .int .i64 t] 140)).cell? ⟨y.heap.size, 4, none⟩ = some (.int .i64 hH) := by simp [go_sem]
  have u5 : (y.alloc (.cells #[.int .i64 s, .int .i64 q, .int .i64 n, .bool hS, .int .i64 hH, .int .i64 hL, .int .i64 t] 140)).cell? ⟨y.heap.size, 5, none⟩ = some (.int .i64 hL) := by simp [go_sem]
  have u6 : (y.alloc (.cells #[.int .i64 s, .int .i64 q, .int .i64 n, .bool hS, .int .i64 hH, .int .i64 hL, .int .i64 t] 140)).cell? ⟨y.heap.size, 6, none⟩ = some (.int .i64 t) := by simp [go_sem]
  have uL : y.heap.size < (y.alloc (.cells #[.int .i64 s, .int .i64 q, .int .i64 n, .bool hS, .int .i64 hH, .int .i64 hL, .int .i64 t] 140)).heap.size := by simp
  have HU := hidP ((Below.refl y.heap.size y).alloc (Nat.le_refl _) (.cells #[.int .i64 s, .int .i64 q, .int .i64 n, .bool hS, .int .i64 hH, .int .i64 hL, .int .i64 t] 140))
  generalize y.alloc (.cells #[.int .i64 s, .int .i64 q, .int .i64 n, .bool hS, .int .i64 hH, .int .i64 hL, .int .i64 t] 140) = W1 at *
  have hU := HU.out.size
  have HSx : Hid (∀ x, Below W1.heap.size W1 x → (x.cell? ⟨y.heap.size, 0, none⟩ = some (.int .i64 s) ∧ x.cell? ⟨y.heap.size, 1, none⟩ = some (.int .i64 q) ∧ x.cell? ⟨y.heap.size, 2, none⟩ = some (.int .i64 n) ∧ x.cell? ⟨y.heap.size, 3, none⟩ = some (.bool hS) ∧ x.cell? ⟨y.heap.size, 4, none⟩ = some (.int .i64 hH) ∧ x.cell? ⟨y.heap.size, 5, none⟩ = some (.int .i64 hL) ∧ x.cell? ⟨y.heap.size, 6, none⟩ = some (.int .i64 t) ∧ Below W1.heap.size W1 x)) := hidP fun x h =>
    ⟨(h.cell uL).trans u0, (h.cell uL).trans u1, (h.cell uL).trans u2, (h.cell uL).trans u3, (h.cell uL).trans u4, (h.cell uL).trans u5, (h.cell uL).trans u6, h⟩
  refine wp_region_held_drew (S := (fun x => x.cell? ⟨y.heap.size, 0, none⟩ = some (.int .i64 s) ∧ x.cell? ⟨y.heap.size, 1, none⟩ = some (.int .i64 q) ∧ x.cell? ⟨y.heap.size, 2, none⟩ = some (.int .i64 n) ∧ x.cell? ⟨y.heap.size, 3, none⟩ = some (.bool hS) ∧ x.cell? ⟨y.heap.size, 4, none⟩ = some (.int .i64 hH) ∧ x.cell? ⟨y.heap.size, 5, none⟩ = some (.int .i64 hL) ∧ x.cell? ⟨y.heap.size, 6, none⟩ = some (.int .i64 t) ∧ Below W1.heap.size W1 x)) (by kernel_rfl) ?_ (fun hHeld => ?_)
  · try dsimp only
    exact HSx.out _ ((Below.refl _ _).drew)
  refine tkA 0 132 (v := ?_) rfl (by kernel_rfl) (fun _ _ _ h => h) (by rfl) ?_ (by assumption) ?_; rotate_left; · (intro w hSw; (try dsimp only at hSw); go_simp; try with_reducible rfl)
  simp only [pa]
  refine tkA 1 133 (v := ?_) rfl (by kernel_rfl) (fun _ _ _ h => h) (by rfl) ?_ (by assumption) ?_; rotate_left; · (intro w hSw; (try dsimp only at hSw); go_simp; try with_reducible rfl)
  simp only [pa]
  refine tkA 2 134 (v := ?_) rfl (by kernel_rfl) (fun _ _ _ h => h) (by rfl) ?_ (by assumption) ?_; rotate_left; · (intro w hSw; (try dsimp only at hSw); go_simp; try with_reducible rfl)
  simp only [pa]
  refine tkA 3 135 (v := ?_) rfl (by kernel_rfl) (fun _ _ _ h => h) (by rfl) ?_ (by assumption) ?_; rotate_left; · (intro w hSw; (try dsimp only at hSw); go_simp; try with_reducible rfl)
  simp only [pa]
  refine tkA 5 137 (v := ?_) rfl (by kernel_rfl) (fun _ _ _ h => h) (by rfl) ?_ (by assumption) ?_; rotate_left; · (intro w hSw; (try dsimp only at hSw); go_simp; try with_reducible rfl)
  simp only [pa]
  refine tkA 6 138 (v := ?_) rfl (by kernel_rfl) (fun _ _ _ h => h) (by rfl) ?_ (by assumption) ?_; rotate_left; · (intro w hSw; (try dsimp only at hSw); go_simp; try with_reducible rfl)
  simp only [pa]
  refine wpAnyH_ready (rs := [4]) (by kernel_rfl) (by simp) ?_
  refine AllReadyH.cons rfl (fun K hK => ?_) AllReadyH.nil
  go_simp
  go_wp2_with (first | (go_at_call 80; refine (CH.out _ (HT.out.below (HU.out.trans ((hHeld.2.2.2.2.2.2.2).mono hU)))).mono ?_; rintro e w2 ⟨rfl, hb2⟩; have b2 := (hHeld.2.2.2.2.2.2.2).trans (hb2.mono (hHeld.2.2.2.2.2.2.2).size)))
  refine hK.out _ _ ?_ (fun hHeld => ?_)
  · try dsimp only
    exact HSx.out _ b2
  clear hK K
  refine wpAnyH_ready (rs := [7]) (by kernel_rfl) (by simp) ?_
  refine AllReadyH.cons rfl (fun K hK => ?_) AllReadyH.nil
  go_simp
  go_wp2_with (first | (go_at_call 81; refine (CT.out _ (HT.out.below (HU.out.trans ((hHeld.2.2.2.2.2.2.2).mono hU)))).mono ?_; rintro e w3 ⟨rfl, hb3⟩; have b3 := (hHeld.2.2.2.2.2.2.2).trans (hb3.mono (hHeld.2.2.2.2.2.2.2).size)))
  refine hK.out _ _ ?_ (fun hHeld => ?_)
  · try dsimp only
    exact HSx.out _ b3
  clear hK K
  refine wpAnyH_ready (rs := [8]) (by kernel_rfl) (by simp) ?_
  refine AllReadyH.cons rfl (fun K hK => ?_) AllReadyH.nil
  go_simp
  have bA := (hHeld.2.2.2.2.2.2.2).alloc (hHeld.2.2.2.2.2.2.2).size (.cells #[.string TH, .bool rH, .string TT, .bool rT] 106)
  refine hK.out _ _ ?_ (fun hHeld => ?_)
  · try dsimp only
    exact HSx.out _ bA
  clear hK K
  refine wpAnyH_ready (rs := [9]) (by kernel_rfl) (by simp) ?_
  refine AllReadyH.cons rfl (fun K hK => ?_) AllReadyH.nil
  go_simp
  go_wp2_with (first | (go_at_call 75; refine (CW.out w3.heap.size 2 [(TH, rH), (TT, rT)] _ (HT.out.below (HU.out.trans ((hHeld.2.2.2.2.2.2.2).mono hU))) rfl (by omega) (own_manyG KF w3 0 106 [(TH, rH), (TT, rT)] #[.string TH, .bool rH, .string TT, .bool rT] rfl 2 rfl (by omega) (Nat.zero_le _)).row).mono ?_; rintro e w4 ⟨a9, c9, rfl, ho9, hb4⟩; have b4 := (hHeld.2.2.2.2.2.2.2).trans (hb4.mono (hHeld.2.2.2.2.2.2.2).size)))
  refine hK.out _ _ ?_ (fun hHeld => ?_)
  · try dsimp only
    exact HSx.out _ b4
  clear hK K
  refine tkA 10 2 (v := ?_) rfl (by kernel_rfl) (fun _ _ _ h => h) (by rfl) ?_ (by assumption) ?_; rotate_left; · (intro w hSw; (try dsimp only at hSw); go_simp; try with_reducible rfl)
  simp only [Act.put, List.setIfInBounds_toArray]
  have HE := hidP (hHeld.2.2.2.2.2.2.2)
  refine wpAnyH_done (by kernel_rfl) ?_ _
  clear hHeld
  have hA := bA.size
  go_wp2_with fail
  go_ret
  exact ⟨a9, c9, by simp, ho9.mono (by simp; simp at hA; omega), HU.out.trans (HE.out.mono hU)⟩

end Go.Proofs.YthjpapninnbdkaaGreatDoor
namespace Go.Proofs.YthjpapninnbdkaaGreatDoor
open Go.RowKit

set_option maxRecDepth 10000 in
set_option maxHeartbeats 4000000 in
theorem oo_8 (p : Nat) (s q n : Int) (aS : Bool) (aH aL ab b : Int) (hS : Bool) (hH hL : Int) (o : ByteArray) (t sp : Int) (x : World) (h : Bx x p [.int .i64 8, .int .i64 s, .int .i64 q, .int .i64 n, .bool aS, .int .i64 aH, .int .i64 aL, .int .i64 ab, .int .i64 b, .bool hS, .int .i64 hH, .int .i64 hL, .string o, .int .i64 t, .int .i64 sp]) :
    Calls Tryz.prog 60 #[.pointer (some ⟨p, 0, none⟩)] x fun e w' => e = .returned (.iface 136 (.agg #[.int .i64 s, .int .i64 q, .int .i64 n, .bool hS, .int .i64 hH, .int .i64 hL, .string o, .int .i64 sp])) ∧ Bx w' p [.int .i64 0, .int .i64 0, .int .i64 0, .int .i64 0, .bool aS, .int .i64 aH, .int .i64 aL, .int .i64 ab, .int .i64 b, .bool false, .int .i64 0, .int .i64 0, .string ⟨#[]⟩, .int .i64 t, .int .i64 0] ∧ Kp p x w' := by
  have hLt := h.lt
  have HX := hidP h
  clear h
  go_enter Tryz.func60, Tryz.ntmps60
  go_wp2_with (first | (go_at_call_of 68 (Value.pointer (some (⟨p, 0, none⟩ : Addr))); refine (takeI p 0 [.int .i64 8, .int .i64 s, .int .i64 q, .int .i64 n, .bool aS, .int .i64 aH, .int .i64 aL, .int .i64 ab, .int .i64 b, .bool hS, .int .i64 hH, .int .i64 hL, .string o, .int .i64 t, .int .i64 sp] (8) _ (by repeat (first | with_reducible exact HX.out | (with_reducible refine Bx.drew ?_) | (with_reducible refine Bx.alloc ?_ _))) rfl).mono ?_; rintro e w1 ⟨rfl, hx1, hk1⟩; have HX1 : Hid (Bx w1 p [.int .i64 0, .int .i64 s, .int .i64 q, .int .i64 n, .bool aS, .int .i64 aH, .int .i64 aL, .int .i64 ab, .int .i64 b, .bool hS, .int .i64 hH, .int .i64 hL, .string o, .int .i64 t, .int .i64 sp]) := hidP hx1; have HK1 := hidP hk1;  clear hx1 hk1))
  go_region_with (first | (go_at_call_of 69 (Value.pointer (some (⟨p, 0, none⟩ : Addr))); refine (reqOut p 0 s q n aS aH aL ab b hS hH hL o t sp _ (by repeat (first | with_reducible exact HX.out | with_reducible exact HX1.out | (with_reducible refine Bx.drew ?_) | (with_reducible refine Bx.alloc ?_ _)))).mono ?_; rintro e w2 ⟨rfl, hx2, hk2⟩; have HX2 : Hid (Bx w2 p [.int .i64 0, .int .i64 0, .int .i64 0, .int .i64 0, .bool aS, .int .i64 aH, .int .i64 aL, .int .i64 ab, .int .i64 b, .bool hS, .int .i64 hH, .int .i64 hL, .string o, .int .i64 t, .int .i64 sp]) := hidP hx2; have HK2 := hidP hk2;  clear hx2 hk2) | (go_at_call_of 72 (Value.pointer (some (⟨p, 9, none⟩ : Addr))); refine (takeA p 9 [.int .i64 0, .int .i64 0, .int .i64 0, .int .i64 0, .bool aS, .int .i64 aH, .int .i64 aL, .int .i64 ab, .int .i64 b, .bool hS, .int .i64 hH, .int .i64 hL, .string o, .int .i64 t, .int .i64 sp] hS hH hL _ (by repeat (first | with_reducible exact HX.out | with_reducible exact HX1.out | with_reducible exact HX2.out | (with_reducible refine Bx.drew ?_) | (with_reducible refine Bx.alloc ?_ _))) rfl rfl rfl).mono ?_; rintro e w3 ⟨rfl, hx3, hk3⟩; have HX3 : Hid (Bx w3 p [.int .i64 0, .int .i64 0, .int .i64 0, .int .i64 0, .bool aS, .int .i64 aH, .int .i64 aL, .int .i64 ab, .int .i64 b, .bool false, .int .i64 0, .int .i64 0, .string o, .int .i64 t, .int .i64 sp]) := hidP hx3; have HK3 := hidP hk3;  clear hx3 hk3) | (go_at_call_of 71 (Value.pointer (some (⟨p, 12, none⟩ : Addr))); refine (takeS p 12 [.int .i64 0, .int .i64 0, .int .i64 0, .int .i64 0, .bool aS, .int .i64 aH, .int .i64 aL, .int .i64 ab, .int .i64 b, .bool false, .int .i64 0, .int .i64 0, .string o, .int .i64 t, .int .i64 sp] o _ (by repeat (first | with_reducible exact HX.out | with_reducible exact HX1.out | with_reducible exact HX2.out | with_reducible exact HX3.out | (with_reducible refine Bx.drew ?_) | (with_reducible refine Bx.alloc ?_ _))) rfl).mono ?_; rintro e w4 ⟨rfl, hx4, hk4⟩; have HX4 : Hid (Bx w4 p [.int .i64 0, .int .i64 0, .int .i64 0, .int .i64 0, .bool aS, .int .i64 aH, .int .i64 aL, .int .i64 ab, .int .i64 b, .bool false, .int .i64 0, .int .i64 0, .string ⟨#[]⟩, .int .i64 t, .int .i64 sp]) := hidP hx4; have HK4 := hidP hk4;  clear hx4 hk4) | (go_at_call_of 68 (Value.pointer (some (⟨p, 14, none⟩ : Addr))); refine (takeI p 14 [.int .i64 0, .int .i64 0, .int .i64 0, .int .i64 0, .bool aS, .int .i64 aH, .int .i64 aL, .int .i64 ab, .int .i64 b, .bool false, .int .i64 0, .int .i64 0, .string ⟨#[]⟩, .int .i64 t, .int .i64 sp] (sp) _ (by repeat (first | with_reducible exact HX.out | with_reducible exact HX1.out | with_reducible exact HX2.out | with_reducible exact HX3.out | with_reducible exact HX4.out | (with_reducible refine Bx.drew ?_) | (with_reducible refine Bx.alloc ?_ _))) rfl).mono ?_; rintro e w5 ⟨rfl, hx5, hk5⟩; have HX5 : Hid (Bx w5 p [.int .i64 0, .int .i64 0, .int .i64 0, .int .i64 0, .bool aS, .int .i64 aH, .int .i64 aL, .int .i64 ab, .int .i64 b, .bool false, .int .i64 0, .int .i64 0, .string ⟨#[]⟩, .int .i64 t, .int .i64 0]) := hidP hx5; have HK5 := hidP hk5;  clear hx5 hk5))
  all_goals
    go_wp2_with fail
    go_ret
    refine ⟨rfl, HX5.out, ?_⟩
    repeat (first | with_reducible exact Kp.refl _ _ | (with_reducible refine Kp.trans ?_ HK5.out) | (with_reducible refine Kp.trans ?_ HK4.out) | (with_reducible refine Kp.trans ?_ HK3.out) | (with_reducible refine Kp.trans ?_ HK2.out) | (with_reducible refine Kp.trans ?_ HK1.out) | (with_reducible refine Kp.more ?_ (by omega) _) | (with_reducible refine Kp.trans ?_ (Kp.drew _ _)) | (with_reducible refine Kp.setNew ?_ (by omega) (by first | omega | (simp; done) | (simp; omega)) _))

set_option maxRecDepth 10000 in
set_option maxHeartbeats 4000000 in
theorem oo_9 (p : Nat) (s q n : Int) (aS : Bool) (aH aL ab b : Int) (hS : Bool) (hH hL : Int) (o : ByteArray) (t sp : Int) (x : World) (h : Bx x p [.int .i64 9, .int .i64 s, .int .i64 q, .int .i64 n, .bool aS, .int .i64 aH, .int .i64 aL, .int .i64 ab, .int .i64 b, .bool hS, .int .i64 hH, .int .i64 hL, .string o, .int .i64 t, .int .i64 sp]) :
    Calls Tryz.prog 60 #[.pointer (some ⟨p, 0, none⟩)] x fun e w' => e = .returned (.iface 138 (.agg #[.int .i64 s, .int .i64 q, .int .i64 n, .bool hS, .int .i64 hH, .int .i64 hL, .int .i64 t, .int .i64 sp])) ∧ Bx w' p [.int .i64 0, .int .i64 0, .int .i64 0, .int .i64 0, .bool aS, .int .i64 aH, .int .i64 aL, .int .i64 ab, .int .i64 b, .bool false, .int .i64 0, .int .i64 0, .string o, .int .i64 0, .int .i64 0] ∧ Kp p x w' := by
  have hLt := h.lt
  have HX := hidP h
  clear h
  go_enter Tryz.func60, Tryz.ntmps60
  go_wp2_with (first | (go_at_call_of 68 (Value.pointer (some (⟨p, 0, none⟩ : Addr))); refine (takeI p 0 [.int .i64 9, .int .i64 s, .int .i64 q, .int .i64 n, .bool aS, .int .i64 aH, .int .i64 aL, .int .i64 ab, .int .i64 b, .bool hS, .int .i64 hH, .int .i64 hL, .string o, .int .i64 t, .int .i64 sp] (9) _ (by repeat (first | with_reducible exact HX.out | (with_reducible refine Bx.drew ?_) | (with_reducible refine Bx.alloc ?_ _))) rfl).mono ?_; rintro e w1 ⟨rfl, hx1, hk1⟩; have HX1 : Hid (Bx w1 p [.int .i64 0, .int .i64 s, .int .i64 q, .int .i64 n, .bool aS, .int .i64 aH, .int .i64 aL, .int .i64 ab, .int .i64 b, .bool hS, .int .i64 hH, .int .i64 hL, .string o, .int .i64 t, .int .i64 sp]) := hidP hx1; have HK1 := hidP hk1;  clear hx1 hk1))
  go_region_with (first | (go_at_call_of 69 (Value.pointer (some (⟨p, 0, none⟩ : Addr))); refine (reqOut p 0 s q n aS aH aL ab b hS hH hL o t sp _ (by repeat (first | with_reducible exact HX.out | with_reducible exact HX1.out | (with_reducible refine Bx.drew ?_) | (with_reducible refine Bx.alloc ?_ _)))).mono ?_; rintro e w2 ⟨rfl, hx2, hk2⟩; have HX2 : Hid (Bx w2 p [.int .i64 0, .int .i64 0, .int .i64 0, .int .i64 0, .bool aS, .int .i64 aH, .int .i64 aL, .int .i64 ab, .int .i64 b, .bool hS, .int .i64 hH, .int .i64 hL, .string o, .int .i64 t, .int .i64 sp]) := hidP hx2; have HK2 := hidP hk2;  clear hx2 hk2) | (go_at_call_of 72 (Value.pointer (some (⟨p, 9, none⟩ : Addr))); refine (takeA p 9 [.int .i64 0, .int .i64 0, .int .i64 0, .int .i64 0, .bool aS, .int .i64 aH, .int .i64 aL, .int .i64 ab, .int .i64 b, .bool hS, .int .i64 hH, .int .i64 hL, .string o, .int .i64 t, .int .i64 sp] hS hH hL _ (by repeat (first | with_reducible exact HX.out | with_reducible exact HX1.out | with_reducible exact HX2.out | (with_reducible refine Bx.drew ?_) | (with_reducible refine Bx.alloc ?_ _))) rfl rfl rfl).mono ?_; rintro e w3 ⟨rfl, hx3, hk3⟩; have HX3 : Hid (Bx w3 p [.int .i64 0, .int .i64 0, .int .i64 0, .int .i64 0, .bool aS, .int .i64 aH, .int .i64 aL, .int .i64 ab, .int .i64 b, .bool false, .int .i64 0, .int .i64 0, .string o, .int .i64 t, .int .i64 sp]) := hidP hx3; have HK3 := hidP hk3;  clear hx3 hk3) | (go_at_call_of 68 (Value.pointer (some (⟨p, 13, none⟩ : Addr))); refine (takeI p 13 [.int .i64 0, .int .i64 0, .int .i64 0, .int .i64 0, .bool aS, .int .i64 aH, .int .i64 aL, .int .i64 ab, .int .i64 b, .bool false, .int .i64 0, .int .i64 0, .string o, .int .i64 t, .int .i64 sp] (t) _ (by repeat (first | with_reducible exact HX.out | with_reducible exact HX1.out | with_reducible exact HX2.out | with_reducible exact HX3.out | (with_reducible refine Bx.drew ?_) | (with_reducible refine Bx.alloc ?_ _))) rfl).mono ?_; rintro e w4 ⟨rfl, hx4, hk4⟩; have HX4 : Hid (Bx w4 p [.int .i64 0, .int .i64 0, .int .i64 0, .int .i64 0, .bool aS, .int .i64 aH, .int .i64 aL, .int .i64 ab, .int .i64 b, .bool false, .int .i64 0, .int .i64 0, .string o, .int .i64 0, .int .i64 sp]) := hidP hx4; have HK4 := hidP hk4;  clear hx4 hk4) | (go_at_call_of 68 (Value.pointer (some (⟨p, 14, none⟩ : Addr))); refine (takeI p 14 [.int .i64 0, .int .i64 0, .int .i64 0, .int .i64 0, .bool aS, .int .i64 aH, .int .i64 aL, .int .i64 ab, .int .i64 b, .bool false, .int .i64 0, .int .i64 0, .string o, .int .i64 0, .int .i64 sp] (sp) _ (by repeat (first | with_reducible exact HX.out | with_reducible exact HX1.out | with_reducible exact HX2.out | with_reducible exact HX3.out | with_reducible exact HX4.out | (with_reducible refine Bx.drew ?_) | (with_reducible refine Bx.alloc ?_ _))) rfl).mono ?_; rintro e w5 ⟨rfl, hx5, hk5⟩; have HX5 : Hid (Bx w5 p [.int .i64 0, .int .i64 0, .int .i64 0, .int .i64 0, .bool aS, .int .i64 aH, .int .i64 aL, .int .i64 ab, .int .i64 b, .bool false, .int .i64 0, .int .i64 0, .string o, .int .i64 0, .int .i64 0]) := hidP hx5; have HK5 := hidP hk5;  clear hx5 hk5))
  all_goals
    go_wp2_with fail
    go_ret
    refine ⟨rfl, HX5.out, ?_⟩
    repeat (first | with_reducible exact Kp.refl _ _ | (with_reducible refine Kp.trans ?_ HK5.out) | (with_reducible refine Kp.trans ?_ HK4.out) | (with_reducible refine Kp.trans ?_ HK3.out) | (with_reducible refine Kp.trans ?_ HK2.out) | (with_reducible refine Kp.trans ?_ HK1.out) | (with_reducible refine Kp.more ?_ (by omega) _) | (with_reducible refine Kp.trans ?_ (Kp.drew _ _)) | (with_reducible refine Kp.setNew ?_ (by omega) (by first | omega | (simp; done) | (simp; omega)) _))

set_option maxRecDepth 10000 in
set_option maxHeartbeats 4000000 in
theorem oo_10 (p : Nat) (s q n : Int) (aS : Bool) (aH aL ab b : Int) (hS : Bool) (hH hL : Int) (o : ByteArray) (t sp : Int) (x : World) (h : Bx x p [.int .i64 10, .int .i64 s, .int .i64 q, .int .i64 n, .bool aS, .int .i64 aH, .int .i64 aL, .int .i64 ab, .int .i64 b, .bool hS, .int .i64 hH, .int .i64 hL, .string o, .int .i64 t, .int .i64 sp]) :
    Calls Tryz.prog 60 #[.pointer (some ⟨p, 0, none⟩)] x fun e w' => e = .returned (.iface 140 (.agg #[.int .i64 s, .int .i64 q, .int .i64 n, .bool hS, .int .i64 hH, .int .i64 hL, .int .i64 t])) ∧ Bx w' p [.int .i64 0, .int .i64 0, .int .i64 0, .int .i64 0, .bool aS, .int .i64 aH, .int .i64 aL, .int .i64 ab, .int .i64 b, .bool false, .int .i64 0, .int .i64 0, .string o, .int .i64 0, .int .i64 sp] ∧ Kp p x w' := by
  have hLt := h.lt
  have HX := hidP h
  clear h
  go_enter Tryz.func60, Tryz.ntmps60
  go_wp2_with (first | (go_at_call_of 68 (Value.pointer (some (⟨p, 0, none⟩ : Addr))); refine (takeI p 0 [.int .i64 10, .int .i64 s, .int .i64 q, .int .i64 n, .bool aS, .int .i64 aH, .int .i64 aL, .int .i64 ab, .int .i64 b, .bool hS, .int .i64 hH, .int .i64 hL, .string o, .int .i64 t, .int .i64 sp] (10) _ (by repeat (first | with_reducible exact HX.out | (with_reducible refine Bx.drew ?_) | (with_reducible refine Bx.alloc ?_ _))) rfl).mono ?_; rintro e w1 ⟨rfl, hx1, hk1⟩; have HX1 : Hid (Bx w1 p [.int .i64 0, .int .i64 s, .int .i64 q, .int .i64 n, .bool aS, .int .i64 aH, .int .i64 aL, .int .i64 ab, .int .i64 b, .bool hS, .int .i64 hH, .int .i64 hL, .string o, .int .i64 t, .int .i64 sp]) := hidP hx1; have HK1 := hidP hk1;  clear hx1 hk1))
  go_region_with (first | (go_at_call_of 69 (Value.pointer (some (⟨p, 0, none⟩ : Addr))); refine (reqOut p 0 s q n aS aH aL ab b hS hH hL o t sp _ (by repeat (first | with_reducible exact HX.out | with_reducible exact HX1.out | (with_reducible refine Bx.drew ?_) | (with_reducible refine Bx.alloc ?_ _)))).mono ?_; rintro e w2 ⟨rfl, hx2, hk2⟩; have HX2 : Hid (Bx w2 p [.int .i64 0, .int .i64 0, .int .i64 0, .int .i64 0, .bool aS, .int .i64 aH, .int .i64 aL, .int .i64 ab, .int .i64 b, .bool hS, .int .i64 hH, .int .i64 hL, .string o, .int .i64 t, .int .i64 sp]) := hidP hx2; have HK2 := hidP hk2;  clear hx2 hk2) | (go_at_call_of 72 (Value.pointer (some (⟨p, 9, none⟩ : Addr))); refine (takeA p 9 [.int .i64 0, .int .i64 0, .int .i64 0, .int .i64 0, .bool aS, .int .i64 aH, .int .i64 aL, .int .i64 ab, .int .i64 b, .bool hS, .int .i64 hH, .int .i64 hL, .string o, .int .i64 t, .int .i64 sp] hS hH hL _ (by repeat (first | with_reducible exact HX.out | with_reducible exact HX1.out | with_reducible exact HX2.out | (with_reducible refine Bx.drew ?_) | (with_reducible refine Bx.alloc ?_ _))) rfl rfl rfl).mono ?_; rintro e w3 ⟨rfl, hx3, hk3⟩; have HX3 : Hid (Bx w3 p [.int .i64 0, .int .i64 0, .int .i64 0, .int .i64 0, .bool aS, .int .i64 aH, .int .i64 aL, .int .i64 ab, .int .i64 b, .bool false, .int .i64 0, .int .i64 0, .string o, .int .i64 t, .int .i64 sp]) := hidP hx3; have HK3 := hidP hk3;  clear hx3 hk3) | (go_at_call_of 68 (Value.pointer (some (⟨p, 13, none⟩ : Addr))); refine (takeI p 13 [.int .i64 0, .int .i64 0, .int .i64 0, .int .i64 0, .bool aS, .int .i64 aH, .int .i64 aL, .int .i64 ab, .int .i64 b, .bool false, .int .i64 0, .int .i64 0, .string o, .int .i64 t, .int .i64 sp] (t) _ (by repeat (first | with_reducible exact HX.out | with_reducible exact HX1.out | with_reducible exact HX2.out | with_reducible exact HX3.out | (with_reducible refine Bx.drew ?_) | (with_reducible refine Bx.alloc ?_ _))) rfl).mono ?_; rintro e w4 ⟨rfl, hx4, hk4⟩; have HX4 : Hid (Bx w4 p [.int .i64 0, .int .i64 0, .int .i64 0, .int .i64 0, .bool aS, .int .i64 aH, .int .i64 aL, .int .i64 ab, .int .i64 b, .bool false, .int .i64 0, .int .i64 0, .string o, .int .i64 0, .int .i64 sp]) := hidP hx4; have HK4 := hidP hk4;  clear hx4 hk4))
  all_goals
    go_wp2_with fail
    go_ret
    refine ⟨rfl, HX4.out, ?_⟩
    repeat (first | with_reducible exact Kp.refl _ _ | (with_reducible refine Kp.trans ?_ HK4.out) | (with_reducible refine Kp.trans ?_ HK3.out) | (with_reducible refine Kp.trans ?_ HK2.out) | (with_reducible refine Kp.trans ?_ HK1.out) | (with_reducible refine Kp.more ?_ (by omega) _) | (with_reducible refine Kp.trans ?_ (Kp.drew _ _)) | (with_reducible refine Kp.setNew ?_ (by omega) (by first | omega | (simp; done) | (simp; omega)) _))

end Go.Proofs.YthjpapninnbdkaaGreatDoor
namespace Go.Proofs.YthjpapninnbdkaaGreatDoor
open Go.RowKit

set_option maxRecDepth 10000 in
set_option maxHeartbeats 4000000 in
theorem ro_8 (s q n : Int) (aS : Bool) (aH aL : BitVec 64) (ab b : Int) (hS : Bool) (hH hL : Int) (o : ByteArray) (t sp : Int) (TA TH : List UInt8) (HI : Hid (CmI s q n b t sp o)) (HTA : Hid (TA.length ≤ 200 ∧ ∀ w : World, Tabs w → Calls Tryz.prog 84 #[.agg #[.bool aS, .int .i64 aH.toInt, .int .i64 aL.toInt, .int .i64 ab]] w fun e w' => e = .returned (.string ⟨TA.toArray⟩) ∧ Below w.heap.size w w')) (HTH : Hid (TH.length ≤ 200 ∧ ∀ w : World, Tabs w → Calls Tryz.prog 87 #[.agg #[.bool hS, .int .i64 hH, .int .i64 hL]] w fun e w' => e = .returned (.string ⟨TH.toArray⟩) ∧ Below w.heap.size w w')) (y : World) (ht : Tabs y) :
    Calls Tryz.prog 47 #[.agg #[.int .i64 8, .int .i64 s, .int .i64 q, .int .i64 n, .bool aS, .int .i64 aH.toInt, .int .i64 aL.toInt, .int .i64 ab, .int .i64 b, .bool hS, .int .i64 hH, .int .i64 hL, .string o, .int .i64 t, .int .i64 sp]] y fun e w' => (((zCm (0) (0) (0) (0) (aS) (aH.toInt) (aL.toInt) (ab) (b) (false) (0) (0) (⟨#[]⟩) (t) (0) && [((fT ⟨#[115, 101, 115, 115, 105, 111, 110]⟩ s), (rB 1 s 1000000)), ((fT ⟨#[115, 101, 113]⟩ q), (rB 1 q 1000000)), ((fT ⟨#[110, 111, 119]⟩ n), (rB 0 n 1000000000)), ((hT TH), (okB hS hH hL)), ((oT o), (ownB o)), ((fT ⟨#[115, 112, 97, 110]⟩ sp), (rB 1 sp 1000))].all (fun z => z.2)) = true ∧ e = .returned (.tuple #[.iface 136 (.agg #[.int .i64 s, .int .i64 q, .int .i64 n, .bool hS, .int .i64 hH, .int .i64 hL, .string o, .int .i64 sp]), .bool true])) ∨ ((zCm (0) (0) (0) (0) (aS) (aH.toInt) (aL.toInt) (ab) (b) (false) (0) (0) (⟨#[]⟩) (t) (0) && [((fT ⟨#[115, 101, 115, 115, 105, 111, 110]⟩ s), (rB 1 s 1000000)), ((fT ⟨#[115, 101, 113]⟩ q), (rB 1 q 1000000)), ((fT ⟨#[110, 111, 119]⟩ n), (rB 0 n 1000000000)), ((hT TH), (okB hS hH hL)), ((oT o), (ownB o)), ((fT ⟨#[115, 112, 97, 110]⟩ sp), (rB 1 sp 1000))].all (fun z => z.2)) = false ∧ e = .returned (.tuple #[.nilIface, .bool false]))) ∧ Below y.heap.size y w' := by
  have HT := hidP ht
  have HFO := hidP (fun w (h : Tabs w) => fo_8 s q n aS aH aL ab b hS hH hL o t sp TA TH HI HTA HTH w h)
  have hlen : [((fT ⟨#[115, 101, 115, 115, 105, 111, 110]⟩ s), (rB 1 s 1000000)), ((fT ⟨#[115, 101, 113]⟩ q), (rB 1 q 1000000)), ((fT ⟨#[110, 111, 119]⟩ n), (rB 0 n 1000000000)), ((hT TH), (okB hS hH hL)), ((oT o), (ownB o)), ((fT ⟨#[115, 112, 97, 110]⟩ sp), (rB 1 sp 1000))].length = 6 := rfl
  generalize [((fT ⟨#[115, 101, 115, 115, 105, 111, 110]⟩ s), (rB 1 s 1000000)), ((fT ⟨#[115, 101, 113]⟩ q), (rB 1 q 1000000)), ((fT ⟨#[110, 111, 119]⟩ n), (rB 0 n 1000000000)), ((hT TH), (okB hS hH hL)), ((oT o), (ownB o)), ((fT ⟨#[115, 112, 97, 110]⟩ sp), (rB 1 sp 1000))] = fl at *
  have HL := hidP hlen
  obtain ⟨R, hR⟩ : ∃ R : Bool, R = (zCm (0) (0) (0) (0) (aS) (aH.toInt) (aL.toInt) (ab) (b) (false) (0) (0) (⟨#[]⟩) (t) (0) && fl.all (fun z => z.2)) := ⟨_, rfl⟩
  rw [← hR]
  have HR0 := hidP hR
  clear hR
  clear ht hlen HI HTA HTH
  go_enter Tryz.func47, Tryz.ntmps47
  go_wp2_with fail
  have HX0 := hidP (Bx.new y [.int .i64 8, .int .i64 s, .int .i64 q, .int .i64 n, .bool aS, .int .i64 aH.toInt, .int .i64 aL.toInt, .int .i64 ab, .int .i64 b, .bool hS, .int .i64 hH, .int .i64 hL, .string o, .int .i64 t, .int .i64 sp] 35)
  have HU := hidP ((Below.refl y.heap.size y).alloc (Nat.le_refl _) (.cells #[.int .i64 8, .int .i64 s, .int .i64 q, .int .i64 n, .bool aS, .int .i64 aH.toInt, .int .i64 aL.toInt, .int .i64 ab, .int .i64 b, .bool hS, .int .i64 hH, .int .i64 hL, .string o, .int .i64 t, .int .i64 sp] 35))
  refine (oo_8 y.heap.size s q n aS aH.toInt aL.toInt ab b hS hH hL o t sp _ HX0.out).mono ?_
  rintro e w1 ⟨rfl, hx, hk⟩
  have c0 := hx.cel 0 _ rfl
  have c1 := hx.cel 1 _ rfl
  have c2 := hx.cel 2 _ rfl
  have c3 := hx.cel 3 _ rfl
  have c4 := hx.cel 4 _ rfl
  have c5 := hx.cel 5 _ rfl
  have c6 := hx.cel 6 _ rfl
  have c7 := hx.cel 7 _ rfl
  have c8 := hx.cel 8 _ rfl
  have c9 := hx.cel 9 _ rfl
  have c10 := hx.cel 10 _ rfl
  have c11 := hx.cel 11 _ rfl
  have c12 := hx.cel 12 _ rfl
  have c13 := hx.cel 13 _ rfl
  have c14 := hx.cel 14 _ rfl
  have HB1 := hidP (HU.out.trans hk.low)
  have h1 : y.heap.size ≤ w1.heap.size := HB1.out.size
  have hq := eqCm (0) (0) (0) (0) (aS) (aH.toInt) (aL.toInt) (ab) (b) (false) (0) (0) (⟨#[]⟩) (t) (0)
  clear hx hk HX0 HU
  generalize zCm (0) (0) (0) (0) (aS) (aH.toInt) (aL.toInt) (ab) (b) (false) (0) (0) (⟨#[]⟩) (t) (0) = Z at *
  cases Z
  · have HR : Hid ((false && fl.all (fun z => z.2)) = false) := hidP rfl
    go_wp2_with fail
    go_ret2
    exact ⟨Or.inr ⟨by rw [HR0.out]; exact HR.out, rfl⟩, HB1.out⟩
  · go_wp2_with fail
    refine (HFO.out _ (HT.out.below HB1.out)).mono ?_
    rintro e w2 ⟨a, c, rfl, ho, hb2⟩
    have HB2 := hidP (HB1.out.trans (hb2.mono h1))
    have h2 := HB2.out.size
    have HRow := hidP ho.row
    clear hb2 ho c0 c1 c2 c3 c4 c5 c6 c7 c8 c9 c10 c11 c12 c13 c14 hq
    go_wp2_with fail
    go_loopw [18] (fun t18 x => ∃ k : Nat, k ≤ 6 ∧ t18 = .int .i64 k ∧ Hid ((fl.take k).all (fun z => z.2) = true) ∧ Hid (Below w2.heap.size w2 x)) (fun t18 _ => 6 - (intOf t18).toNat)
    case atStart => exact ⟨0, by omega, rfl, hidP (by simp), hidP (Below.refl _ _)⟩
    case round =>
      obtain ⟨k, hk, rfl, HA, HB⟩ := hrel
      have h3 := HB.out.size
      by_cases hlt : k < 6
      · obtain ⟨p, o', z, rfl, hp, hz, d0, d1⟩ := rowF HRow.out k (by rw [HL.out]; exact hlt)
        have e0 := (HB.out.cell hp).trans d0
        have e1 := (HB.out.cell hp).trans d1
        have hlt' : (k : Int) < 6 := by omega
        have HS := hidP (all_snoc hz)
        have HN := hidP (all_not hz)
        clear d0 d1 hz
        obtain ⟨zt, zf⟩ := z
        cases zf
        · have HR : Hid ((true && fl.all (fun z => z.2)) = false) := hidP (by rw [Bool.true_and]; exact HN.out rfl)
          go_wp2_with fail
          go_ret2
          exact ⟨Or.inr ⟨by rw [HR0.out]; exact HR.out, rfl⟩, (HB2.out.trans (HB.out.mono h2)).alloc (by omega) _⟩
        · go_wp2_with fail
          go_roundw
          case rel => exact ⟨k + 1, by omega, by go_num, hidP (by rw [HS.out, HA.out]; rfl), hidP (HB.out.alloc h3 _)⟩
          case measure => simp [intOf]; omega
      · have HR : Hid ((true && fl.all (fun z => z.2)) = true) := hidP (by rw [Bool.true_and]; have := HA.out; rw [List.take_of_length_le (by rw [HL.out]; omega)] at this; exact this)
        have hkn : k = 6 := by omega
        subst hkn
        go_wp2_with fail
        go_ret2
        exact ⟨Or.inl ⟨by rw [HR0.out]; exact HR.out, rfl⟩, HB2.out.trans (HB.out.mono h2)⟩

set_option maxRecDepth 10000 in
set_option maxHeartbeats 4000000 in
theorem ro_9 (s q n : Int) (aS : Bool) (aH aL : BitVec 64) (ab b : Int) (hS : Bool) (hH hL : Int) (o : ByteArray) (t sp : Int) (TA TH : List UInt8) (HI : Hid (CmI s q n b t sp o)) (HTA : Hid (TA.length ≤ 200 ∧ ∀ w : World, Tabs w → Calls Tryz.prog 84 #[.agg #[.bool aS, .int .i64 aH.toInt, .int .i64 aL.toInt, .int .i64 ab]] w fun e w' => e = .returned (.string ⟨TA.toArray⟩) ∧ Below w.heap.size w w')) (HTH : Hid (TH.length ≤ 200 ∧ ∀ w : World, Tabs w → Calls Tryz.prog 87 #[.agg #[.bool hS, .int .i64 hH, .int .i64 hL]] w fun e w' => e = .returned (.string ⟨TH.toArray⟩) ∧ Below w.heap.size w w')) (y : World) (ht : Tabs y) :
    Calls Tryz.prog 47 #[.agg #[.int .i64 9, .int .i64 s, .int .i64 q, .int .i64 n, .bool aS, .int .i64 aH.toInt, .int .i64 aL.toInt, .int .i64 ab, .int .i64 b, .bool hS, .int .i64 hH, .int .i64 hL, .string o, .int .i64 t, .int .i64 sp]] y fun e w' => (((zCm (0) (0) (0) (0) (aS) (aH.toInt) (aL.toInt) (ab) (b) (false) (0) (0) (o) (0) (0) && [((fT ⟨#[115, 101, 115, 115, 105, 111, 110]⟩ s), (rB 1 s 1000000)), ((fT ⟨#[115, 101, 113]⟩ q), (rB 1 q 1000000)), ((fT ⟨#[110, 111, 119]⟩ n), (rB 0 n 1000000000)), ((hT TH), (okB hS hH hL)), ((fT ⟨#[116, 111, 107, 101, 110]⟩ t), (rB 1 t 1000000000)), ((fT ⟨#[115, 112, 97, 110]⟩ sp), (rB 1 sp 1000))].all (fun z => z.2)) = true ∧ e = .returned (.tuple #[.iface 138 (.agg #[.int .i64 s, .int .i64 q, .int .i64 n, .bool hS, .int .i64 hH, .int .i64 hL, .int .i64 t, .int .i64 sp]), .bool true])) ∨ ((zCm (0) (0) (0) (0) (aS) (aH.toInt) (aL.toInt) (ab) (b) (false) (0) (0) (o) (0) (0) && [((fT ⟨#[115, 101, 115, 115, 105, 111, 110]⟩ s), (rB 1 s 1000000)), ((fT ⟨#[115, 101, 113]⟩ q), (rB 1 q 1000000)), ((fT ⟨#[110, 111, 119]⟩ n), (rB 0 n 1000000000)), ((hT TH), (okB hS hH hL)), ((fT ⟨#[116, 111, 107, 101, 110]⟩ t), (rB 1 t 1000000000)), ((fT ⟨#[115, 112, 97, 110]⟩ sp), (rB 1 sp 1000))].all (fun z => z.2)) = false ∧ e = .returned (.tuple #[.nilIface, .bool false]))) ∧ Below y.heap.size y w' := by
  have HT := hidP ht
  have HFO := hidP (fun w (h : Tabs w) => fo_9 s q n aS aH aL ab b hS hH hL o t sp TA TH HI HTA HTH w h)
  have hlen : [((fT ⟨#[115, 101, 115, 115, 105, 111, 110]⟩ s), (rB 1 s 1000000)), ((fT ⟨#[115, 101, 113]⟩ q), (rB 1 q 1000000)), ((fT ⟨#[110, 111, 119]⟩ n), (rB 0 n 1000000000)), ((hT TH), (okB hS hH hL)), ((fT ⟨#[116, 111, 107, 101, 110]⟩ t), (rB 1 t 1000000000)), ((fT ⟨#[115, 112, 97, 110]⟩ sp), (rB 1 sp 1000))].length = 6 := rfl
  generalize [((fT ⟨#[115, 101, 115, 115, 105, 111, 110]⟩ s), (rB 1 s 1000000)), ((fT ⟨#[115, 101, 113]⟩ q), (rB 1 q 1000000)), ((fT ⟨#[110, 111, 119]⟩ n), (rB 0 n 1000000000)), ((hT TH), (okB hS hH hL)), ((fT ⟨#[116, 111, 107, 101, 110]⟩ t), (rB 1 t 1000000000)), ((fT ⟨#[115, 112, 97, 110]⟩ sp), (rB 1 sp 1000))] = fl at *
  have HL := hidP hlen
  obtain ⟨R, hR⟩ : ∃ R : Bool, R = (zCm (0) (0) (0) (0) (aS) (aH.toInt) (aL.toInt) (ab) (b) (false) (0) (0) (o) (0) (0) && fl.all (fun z => z.2)) := ⟨_, rfl⟩
  rw [← hR]
  have HR0 := hidP hR
  clear hR
  clear ht hlen HI HTA HTH
  go_enter Tryz.func47, Tryz.ntmps47
  go_wp2_with fail
  have HX0 := hidP (Bx.new y [.int .i64 9, .int .i64 s, .int .i64 q, .int .i64 n, .bool aS, .int .i64 aH.toInt, .int .i64 aL.toInt, .int .i64 ab, .int .i64 b, .bool hS, .int .i64 hH, .int .i64 hL, .string o, .int .i64 t, .int .i64 sp] 35)
  have HU := hidP ((Below.refl y.heap.size y).alloc (Nat.le_refl _) (.cells #[.int .i64 9, .int .i64 s, .int .i64 q, .int .i64 n, .bool aS, .int .i64 aH.toInt, .int .i64 aL.toInt, .int .i64 ab, .int .i64 b, .bool hS, .int .i64 hH, .int .i64 hL, .string o, .int .i64 t, .int .i64 sp] 35))
  refine (oo_9 y.heap.size s q n aS aH.toInt aL.toInt ab b hS hH hL o t sp _ HX0.out).mono ?_
  rintro e w1 ⟨rfl, hx, hk⟩
  have c0 := hx.cel 0 _ rfl
  have c1 := hx.cel 1 _ rfl
  have c2 := hx.cel 2 _ rfl
  have c3 := hx.cel 3 _ rfl
  have c4 := hx.cel 4 _ rfl
  have c5 := hx.cel 5 _ rfl
  have c6 := hx.cel 6 _ rfl
  have c7 := hx.cel 7 _ rfl
  have c8 := hx.cel 8 _ rfl
  have c9 := hx.cel 9 _ rfl
  have c10 := hx.cel 10 _ rfl
  have c11 := hx.cel 11 _ rfl
  have c12 := hx.cel 12 _ rfl
  have c13 := hx.cel 13 _ rfl
  have c14 := hx.cel 14 _ rfl
  have HB1 := hidP (HU.out.trans hk.low)
  have h1 : y.heap.size ≤ w1.heap.size := HB1.out.size
  have hq := eqCm (0) (0) (0) (0) (aS) (aH.toInt) (aL.toInt) (ab) (b) (false) (0) (0) (o) (0) (0)
  clear hx hk HX0 HU
  generalize zCm (0) (0) (0) (0) (aS) (aH.toInt) (aL.toInt) (ab) (b) (false) (0) (0) (o) (0) (0) = Z at *
  cases Z
  · have HR : Hid ((false && fl.all (fun z => z.2)) = false) := hidP rfl
    go_wp2_with fail
    go_ret2
    exact ⟨Or.inr ⟨by rw [HR0.out]; exact HR.out, rfl⟩, HB1.out⟩
  · go_wp2_with fail
    refine (HFO.out _ (HT.out.below HB1.out)).mono ?_
    rintro e w2 ⟨a, c, rfl, ho, hb2⟩
    have HB2 := hidP (HB1.out.trans (hb2.mono h1))
    have h2 := HB2.out.size
    have HRow := hidP ho.row
    clear hb2 ho c0 c1 c2 c3 c4 c5 c6 c7 c8 c9 c10 c11 c12 c13 c14 hq
    go_wp2_with fail
    go_loopw [18] (fun t18 x => ∃ k : Nat, k ≤ 6 ∧ t18 = .int .i64 k ∧ Hid ((fl.take k).all (fun z => z.2) = true) ∧ Hid (Below w2.heap.size w2 x)) (fun t18 _ => 6 - (intOf t18).toNat)
    case atStart => exact ⟨0, by omega, rfl, hidP (by simp), hidP (Below.refl _ _)⟩
    case round =>
      obtain ⟨k, hk, rfl, HA, HB⟩ := hrel
      have h3 := HB.out.size
      by_cases hlt : k < 6
      · obtain ⟨p, o', z, rfl, hp, hz, d0, d1⟩ := rowF HRow.out k (by rw [HL.out]; exact hlt)
        have e0 := (HB.out.cell hp).trans d0
        have e1 := (HB.out.cell hp).trans d1
        have hlt' : (k : Int) < 6 := by omega
        have HS := hidP (all_snoc hz)
        have HN := hidP (all_not hz)
        clear d0 d1 hz
        obtain ⟨zt, zf⟩ := z
        cases zf
        · have HR : Hid ((true && fl.all (fun z => z.2)) = false) := hidP (by rw [Bool.true_and]; exact HN.out rfl)
          go_wp2_with fail
          go_ret2
          exact ⟨Or.inr ⟨by rw [HR0.out]; exact HR.out, rfl⟩, (HB2.out.trans (HB.out.mono h2)).alloc (by omega) _⟩
        · go_wp2_with fail
          go_roundw
          case rel => exact ⟨k + 1, by omega, by go_num, hidP (by rw [HS.out, HA.out]; rfl), hidP (HB.out.alloc h3 _)⟩
          case measure => simp [intOf]; omega
      · have HR : Hid ((true && fl.all (fun z => z.2)) = true) := hidP (by rw [Bool.true_and]; have := HA.out; rw [List.take_of_length_le (by rw [HL.out]; omega)] at this; exact this)
        have hkn : k = 6 := by omega
        subst hkn
        go_wp2_with fail
        go_ret2
        exact ⟨Or.inl ⟨by rw [HR0.out]; exact HR.out, rfl⟩, HB2.out.trans (HB.out.mono h2)⟩

set_option maxRecDepth 10000 in
set_option maxHeartbeats 4000000 in
theorem ro_10 (s q n : Int) (aS : Bool) (aH aL : BitVec 64) (ab b : Int) (hS : Bool) (hH hL : Int) (o : ByteArray) (t sp : Int) (TA TH : List UInt8) (HI : Hid (CmI s q n b t sp o)) (HTA : Hid (TA.length ≤ 200 ∧ ∀ w : World, Tabs w → Calls Tryz.prog 84 #[.agg #[.bool aS, .int .i64 aH.toInt, .int .i64 aL.toInt, .int .i64 ab]] w fun e w' => e = .returned (.string ⟨TA.toArray⟩) ∧ Below w.heap.size w w')) (HTH : Hid (TH.length ≤ 200 ∧ ∀ w : World, Tabs w → Calls Tryz.prog 87 #[.agg #[.bool hS, .int .i64 hH, .int .i64 hL]] w fun e w' => e = .returned (.string ⟨TH.toArray⟩) ∧ Below w.heap.size w w')) (y : World) (ht : Tabs y) :
    Calls Tryz.prog 47 #[.agg #[.int .i64 10, .int .i64 s, .int .i64 q, .int .i64 n, .bool aS, .int .i64 aH.toInt, .int .i64 aL.toInt, .int .i64 ab, .int .i64 b, .bool hS, .int .i64 hH, .int .i64 hL, .string o, .int .i64 t, .int .i64 sp]] y fun e w' => (((zCm (0) (0) (0) (0) (aS) (aH.toInt) (aL.toInt) (ab) (b) (false) (0) (0) (o) (0) (sp) && [((fT ⟨#[115, 101, 115, 115, 105, 111, 110]⟩ s), (rB 1 s 1000000)), ((fT ⟨#[115, 101, 113]⟩ q), (rB 1 q 1000000)), ((fT ⟨#[110, 111, 119]⟩ n), (rB 0 n 1000000000)), ((hT TH), (okB hS hH hL)), ((fT ⟨#[116, 111, 107, 101, 110]⟩ t), (rB 1 t 1000000000))].all (fun z => z.2)) = true ∧ e = .returned (.tuple #[.iface 140 (.agg #[.int .i64 s, .int .i64 q, .int .i64 n, .bool hS, .int .i64 hH, .int .i64 hL, .int .i64 t]), .bool true])) ∨ ((zCm (0) (0) (0) (0) (aS) (aH.toInt) (aL.toInt) (ab) (b) (false) (0) (0) (o) (0) (sp) && [((fT ⟨#[115, 101, 115, 115, 105, 111, 110]⟩ s), (rB 1 s 1000000)), ((fT ⟨#[115, 101, 113]⟩ q), (rB 1 q 1000000)), ((fT ⟨#[110, 111, 119]⟩ n), (rB 0 n 1000000000)), ((hT TH), (okB hS hH hL)), ((fT ⟨#[116, 111, 107, 101, 110]⟩ t), (rB 1 t 1000000000))].all (fun z => z.2)) = false ∧ e = .returned (.tuple #[.nilIface, .bool false]))) ∧ Below y.heap.size y w' := by
  have HT := hidP ht
  have HFO := hidP (fun w (h : Tabs w) => fo_10 s q n aS aH aL ab b hS hH hL o t sp TA TH HI HTA HTH w h)
  have hlen : [((fT ⟨#[115, 101, 115, 115, 105, 111, 110]⟩ s), (rB 1 s 1000000)), ((fT ⟨#[115, 101, 113]⟩ q), (rB 1 q 1000000)), ((fT ⟨#[110, 111, 119]⟩ n), (rB 0 n 1000000000)), ((hT TH), (okB hS hH hL)), ((fT ⟨#[116, 111, 107, 101, 110]⟩ t), (rB 1 t 1000000000))].length = 5 := rfl
  generalize [((fT ⟨#[115, 101, 115, 115, 105, 111, 110]⟩ s), (rB 1 s 1000000)), ((fT ⟨#[115, 101, 113]⟩ q), (rB 1 q 1000000)), ((fT ⟨#[110, 111, 119]⟩ n), (rB 0 n 1000000000)), ((hT TH), (okB hS hH hL)), ((fT ⟨#[116, 111, 107, 101, 110]⟩ t), (rB 1 t 1000000000))] = fl at *
  have HL := hidP hlen
  obtain ⟨R, hR⟩ : ∃ R : Bool, R = (zCm (0) (0) (0) (0) (aS) (aH.toInt) (aL.toInt) (ab) (b) (false) (0) (0) (o) (0) (sp) && fl.all (fun z => z.2)) := ⟨_, rfl⟩
  rw [← hR]
  have HR0 := hidP hR
  clear hR
  clear ht hlen HI HTA HTH
  go_enter Tryz.func47, Tryz.ntmps47
  go_wp2_with fail
  have HX0 := hidP (Bx.new y [.int .i64 10, .int .i64 s, .int .i64 q, .int .i64 n, .bool aS, .int .i64 aH.toInt, .int .i64 aL.toInt, .int .i64 ab, .int .i64 b, .bool hS, .int .i64 hH, .int .i64 hL, .string o, .int .i64 t, .int .i64 sp] 35)
  have HU := hidP ((Below.refl y.heap.size y).alloc (Nat.le_refl _) (.cells #[.int .i64 10, .int .i64 s, .int .i64 q, .int .i64 n, .bool aS, .int .i64 aH.toInt, .int .i64 aL.toInt, .int .i64 ab, .int .i64 b, .bool hS, .int .i64 hH, .int .i64 hL, .string o, .int .i64 t, .int .i64 sp] 35))
  refine (oo_10 y.heap.size s q n aS aH.toInt aL.toInt ab b hS hH hL o t sp _ HX0.out).mono ?_
  rintro e w1 ⟨rfl, hx, hk⟩
  have c0 := hx.cel 0 _ rfl
  have c1 := hx.cel 1 _ rfl
  have c2 := hx.cel 2 _ rfl
  have c3 := hx.cel 3 _ rfl
  have c4 := hx.cel 4 _ rfl
  have c5 := hx.cel 5 _ rfl
  have c6 := hx.cel 6 _ rfl
  have c7 := hx.cel 7 _ rfl
  have c8 := hx.cel 8 _ rfl
  have c9 := hx.cel 9 _ rfl
  have c10 := hx.cel 10 _ rfl
  have c11 := hx.cel 11 _ rfl
  have c12 := hx.cel 12 _ rfl
  have c13 := hx.cel 13 _ rfl
  have c14 := hx.cel 14 _ rfl
  have HB1 := hidP (HU.out.trans hk.low)
  have h1 : y.heap.size ≤ w1.heap.size := HB1.out.size
  have hq := eqCm (0) (0) (0) (0) (aS) (aH.toInt) (aL.toInt) (ab) (b) (false) (0) (0) (o) (0) (sp)
  clear hx hk HX0 HU
  generalize zCm (0) (0) (0) (0) (aS) (aH.toInt) (aL.toInt) (ab) (b) (false) (0) (0) (o) (0) (sp) = Z at *
  cases Z
  · have HR : Hid ((false && fl.all (fun z => z.2)) = false) := hidP rfl
    go_wp2_with fail
    go_ret2
    exact ⟨Or.inr ⟨by rw [HR0.out]; exact HR.out, rfl⟩, HB1.out⟩
  · go_wp2_with fail
    refine (HFO.out _ (HT.out.below HB1.out)).mono ?_
    rintro e w2 ⟨a, c, rfl, ho, hb2⟩
    have HB2 := hidP (HB1.out.trans (hb2.mono h1))
    have h2 := HB2.out.size
    have HRow := hidP ho.row
    clear hb2 ho c0 c1 c2 c3 c4 c5 c6 c7 c8 c9 c10 c11 c12 c13 c14 hq
    go_wp2_with fail
    go_loopw [18] (fun t18 x => ∃ k : Nat, k ≤ 5 ∧ t18 = .int .i64 k ∧ Hid ((fl.take k).all (fun z => z.2) = true) ∧ Hid (Below w2.heap.size w2 x)) (fun t18 _ => 5 - (intOf t18).toNat)
    case atStart => exact ⟨0, by omega, rfl, hidP (by simp), hidP (Below.refl _ _)⟩
    case round =>
      obtain ⟨k, hk, rfl, HA, HB⟩ := hrel
      have h3 := HB.out.size
      by_cases hlt : k < 5
      · obtain ⟨p, o', z, rfl, hp, hz, d0, d1⟩ := rowF HRow.out k (by rw [HL.out]; exact hlt)
        have e0 := (HB.out.cell hp).trans d0
        have e1 := (HB.out.cell hp).trans d1
        have hlt' : (k : Int) < 5 := by omega
        have HS := hidP (all_snoc hz)
        have HN := hidP (all_not hz)
        clear d0 d1 hz
        obtain ⟨zt, zf⟩ := z
        cases zf
        · have HR : Hid ((true && fl.all (fun z => z.2)) = false) := hidP (by rw [Bool.true_and]; exact HN.out rfl)
          go_wp2_with fail
          go_ret2
          exact ⟨Or.inr ⟨by rw [HR0.out]; exact HR.out, rfl⟩, (HB2.out.trans (HB.out.mono h2)).alloc (by omega) _⟩
        · go_wp2_with fail
          go_roundw
          case rel => exact ⟨k + 1, by omega, by go_num, hidP (by rw [HS.out, HA.out]; rfl), hidP (HB.out.alloc h3 _)⟩
          case measure => simp [intOf]; omega
      · have HR : Hid ((true && fl.all (fun z => z.2)) = true) := hidP (by rw [Bool.true_and]; have := HA.out; rw [List.take_of_length_le (by rw [HL.out]; omega)] at this; exact this)
        have hkn : k = 5 := by omega
        subst hkn
        go_wp2_with fail
        go_ret2
        exact ⟨Or.inl ⟨by rw [HR0.out]; exact HR.out, rfl⟩, HB2.out.trans (HB.out.mono h2)⟩

end Go.Proofs.YthjpapninnbdkaaGreatDoor
namespace Go.Proofs.YthjpapninnbdkaaGreatDoor
open Go.RowKit

set_option maxRecDepth 10000 in
set_option maxHeartbeats 4000000 in
theorem ro_11 (s q n : Int) (aS : Bool) (aH aL : BitVec 64) (ab b : Int) (hS : Bool) (hH hL : Int) (o : ByteArray) (t sp : Int) (TA TH : List UInt8) (HI : Hid (CmI s q n b t sp o)) (HTA : Hid (TA.length ≤ 200 ∧ ∀ w : World, Tabs w → Calls Tryz.prog 84 #[.agg #[.bool aS, .int .i64 aH.toInt, .int .i64 aL.toInt, .int .i64 ab]] w fun e w' => e = .returned (.string ⟨TA.toArray⟩) ∧ Below w.heap.size w w')) (HTH : Hid (TH.length ≤ 200 ∧ ∀ w : World, Tabs w → Calls Tryz.prog 87 #[.agg #[.bool hS, .int .i64 hH, .int .i64 hL]] w fun e w' => e = .returned (.string ⟨TH.toArray⟩) ∧ Below w.heap.size w w')) (y : World) (ht : Tabs y) :
    Calls Tryz.prog 47 #[.agg #[.int .i64 11, .int .i64 s, .int .i64 q, .int .i64 n, .bool aS, .int .i64 aH.toInt, .int .i64 aL.toInt, .int .i64 ab, .int .i64 b, .bool hS, .int .i64 hH, .int .i64 hL, .string o, .int .i64 t, .int .i64 sp]] y fun e w' => (((zCm (0) (s) (q) (0) (aS) (aH.toInt) (aL.toInt) (ab) (b) (hS) (hH) (hL) (o) (t) (sp) && [((fT ⟨#[110, 111, 119]⟩ n), (rB 0 n 1000000000))].all (fun z => z.2)) = true ∧ e = .returned (.tuple #[.iface 141 (.agg #[.int .i64 n]), .bool true])) ∨ ((zCm (0) (s) (q) (0) (aS) (aH.toInt) (aL.toInt) (ab) (b) (hS) (hH) (hL) (o) (t) (sp) && [((fT ⟨#[110, 111, 119]⟩ n), (rB 0 n 1000000000))].all (fun z => z.2)) = false ∧ e = .returned (.tuple #[.nilIface, .bool false]))) ∧ Below y.heap.size y w' := by
  have HT := hidP ht
  have HFO := hidP (fun w (h : Tabs w) => fo_11 s q n aS aH aL ab b hS hH hL o t sp TA TH HI HTA HTH w h)
  have hlen : [((fT ⟨#[110, 111, 119]⟩ n), (rB 0 n 1000000000))].length = 1 := rfl
  generalize [((fT ⟨#[110, 111, 119]⟩ n), (rB 0 n 1000000000))] = fl at *
  have HL := hidP hlen
  obtain ⟨R, hR⟩ : ∃ R : Bool, R = (zCm (0) (s) (q) (0) (aS) (aH.toInt) (aL.toInt) (ab) (b) (hS) (hH) (hL) (o) (t) (sp) && fl.all (fun z => z.2)) := ⟨_, rfl⟩
  rw [← hR]
  have HR0 := hidP hR
  clear hR
  clear ht hlen HI HTA HTH
  go_enter Tryz.func47, Tryz.ntmps47
  go_wp2_with fail
  have HX0 := hidP (Bx.new y [.int .i64 11, .int .i64 s, .int .i64 q, .int .i64 n, .bool aS, .int .i64 aH.toInt, .int .i64 aL.toInt, .int .i64 ab, .int .i64 b, .bool hS, .int .i64 hH, .int .i64 hL, .string o, .int .i64 t, .int .i64 sp] 35)
  have HU := hidP ((Below.refl y.heap.size y).alloc (Nat.le_refl _) (.cells #[.int .i64 11, .int .i64 s, .int .i64 q, .int .i64 n, .bool aS, .int .i64 aH.toInt, .int .i64 aL.toInt, .int .i64 ab, .int .i64 b, .bool hS, .int .i64 hH, .int .i64 hL, .string o, .int .i64 t, .int .i64 sp] 35))
  refine (oo_11 y.heap.size s q n aS aH.toInt aL.toInt ab b hS hH hL o t sp _ HX0.out).mono ?_
  rintro e w1 ⟨rfl, hx, hk⟩
  have c0 := hx.cel 0 _ rfl
  have c1 := hx.cel 1 _ rfl
  have c2 := hx.cel 2 _ rfl
  have c3 := hx.cel 3 _ rfl
  have c4 := hx.cel 4 _ rfl
  have c5 := hx.cel 5 _ rfl
  have c6 := hx.cel 6 _ rfl
  have c7 := hx.cel 7 _ rfl
  have c8 := hx.cel 8 _ rfl
  have c9 := hx.cel 9 _ rfl
  have c10 := hx.cel 10 _ rfl
  have c11 := hx.cel 11 _ rfl
  have c12 := hx.cel 12 _ rfl
  have c13 := hx.cel 13 _ rfl
  have c14 := hx.cel 14 _ rfl
  have HB1 := hidP (HU.out.trans hk.low)
  have h1 : y.heap.size ≤ w1.heap.size := HB1.out.size
  have hq := eqCm (0) (s) (q) (0) (aS) (aH.toInt) (aL.toInt) (ab) (b) (hS) (hH) (hL) (o) (t) (sp)
  clear hx hk HX0 HU
  generalize zCm (0) (s) (q) (0) (aS) (aH.toInt) (aL.toInt) (ab) (b) (hS) (hH) (hL) (o) (t) (sp) = Z at *
  cases Z
  · have HR : Hid ((false && fl.all (fun z => z.2)) = false) := hidP rfl
    go_wp2_with fail
    go_ret2
    exact ⟨Or.inr ⟨by rw [HR0.out]; exact HR.out, rfl⟩, HB1.out⟩
  · go_wp2_with fail
    refine (HFO.out _ (HT.out.below HB1.out)).mono ?_
    rintro e w2 ⟨a, c, rfl, ho, hb2⟩
    have HB2 := hidP (HB1.out.trans (hb2.mono h1))
    have h2 := HB2.out.size
    have HRow := hidP ho.row
    clear hb2 ho c0 c1 c2 c3 c4 c5 c6 c7 c8 c9 c10 c11 c12 c13 c14 hq
    go_wp2_with fail
    go_loopw [18] (fun t18 x => ∃ k : Nat, k ≤ 1 ∧ t18 = .int .i64 k ∧ Hid ((fl.take k).all (fun z => z.2) = true) ∧ Hid (Below w2.heap.size w2 x)) (fun t18 _ => 1 - (intOf t18).toNat)
    case atStart => exact ⟨0, by omega, rfl, hidP (by simp), hidP (Below.refl _ _)⟩
    case round =>
      obtain ⟨k, hk, rfl, HA, HB⟩ := hrel
      have h3 := HB.out.size
      by_cases hlt : k < 1
      · obtain ⟨p, o', z, rfl, hp, hz, d0, d1⟩ := rowF HRow.out k (by rw [HL.out]; exact hlt)
        have e0 := (HB.out.cell hp).trans d0
        have e1 := (HB.out.cell hp).trans d1
        have hlt' : (k : Int) < 1 := by omega
        have HS := hidP (all_snoc hz)
        have HN := hidP (all_not hz)
        clear d0 d1 hz
        obtain ⟨zt, zf⟩ := z
        cases zf
        · have HR : Hid ((true && fl.all (fun z => z.2)) = false) := hidP (by rw [Bool.true_and]; exact HN.out rfl)
          go_wp2_with fail
          go_ret2
          exact ⟨Or.inr ⟨by rw [HR0.out]; exact HR.out, rfl⟩, (HB2.out.trans (HB.out.mono h2)).alloc (by omega) _⟩
        · go_wp2_with fail
          go_roundw
          case rel => exact ⟨k + 1, by omega, by go_num, hidP (by rw [HS.out, HA.out]; rfl), hidP (HB.out.alloc h3 _)⟩
          case measure => simp [intOf]; omega
      · have HR : Hid ((true && fl.all (fun z => z.2)) = true) := hidP (by rw [Bool.true_and]; have := HA.out; rw [List.take_of_length_le (by rw [HL.out]; omega)] at this; exact this)
        have hkn : k = 1 := by omega
        subst hkn
        go_wp2_with fail
        go_ret2
        exact ⟨Or.inl ⟨by rw [HR0.out]; exact HR.out, rfl⟩, HB2.out.trans (HB.out.mono h2)⟩

end Go.Proofs.YthjpapninnbdkaaGreatDoor
namespace Go.Proofs.YthjpapninnbdkaaGreatDoor
open Go.RowKit

set_option maxRecDepth 10000 in
set_option maxHeartbeats 2000000 in
theorem ro_no (k : Int) (s q n : Int) (aS : Bool) (aH aL : BitVec 64) (ab b : Int) (hS : Bool) (hH hL : Int) (o : ByteArray) (t sp : Int) (y : World) (e1 : (k == 1) = false) (e2 : (k == 2) = false) (e3 : (k == 3) = false) (e4 : (k == 4) = false) (e5 : (k == 5) = false) (e6 : (k == 6) = false) (e7 : (k == 7) = false) (e8 : (k == 8) = false) (e9 : (k == 9) = false) (e10 : (k == 10) = false) (e11 : (k == 11) = false) :
    Calls Tryz.prog 47 #[.agg #[.int .i64 k, .int .i64 s, .int .i64 q, .int .i64 n, .bool aS, .int .i64 aH.toInt, .int .i64 aL.toInt, .int .i64 ab, .int .i64 b, .bool hS, .int .i64 hH, .int .i64 hL, .string o, .int .i64 t, .int .i64 sp]] y fun e w' => e = .returned (.tuple #[.nilIface, .bool false]) ∧ Below y.heap.size y w' := by
  have HO := hidP (fun x h => oo_no y.heap.size k s q n aS aH.toInt aL.toInt ab b hS hH hL o t sp x h e1 e2 e3 e4 e5 e6 e7 e8 e9 e10 e11)
  clear e1 e2 e3 e4 e5 e6 e7 e8 e9 e10 e11
  go_enter Tryz.func47, Tryz.ntmps47
  go_wp2_with fail
  have HX0 := hidP (Bx.new y [.int .i64 k, .int .i64 s, .int .i64 q, .int .i64 n, .bool aS, .int .i64 aH.toInt, .int .i64 aL.toInt, .int .i64 ab, .int .i64 b, .bool hS, .int .i64 hH, .int .i64 hL, .string o, .int .i64 t, .int .i64 sp] 35)
  have HU := hidP ((Below.refl y.heap.size y).alloc (Nat.le_refl _) (.cells #[.int .i64 k, .int .i64 s, .int .i64 q, .int .i64 n, .bool aS, .int .i64 aH.toInt, .int .i64 aL.toInt, .int .i64 ab, .int .i64 b, .bool hS, .int .i64 hH, .int .i64 hL, .string o, .int .i64 t, .int .i64 sp] 35))
  refine (HO.out _ HX0.out).mono ?_
  rintro e w1 ⟨rfl, _, hk⟩
  have HB1 := hidP (HU.out.trans hk.low)
  clear hk
  go_wp2_with fail
  go_ret2
  exact ⟨rfl, HB1.out⟩

set_option maxHeartbeats 1000000 in
theorem iCmd_of (k : Int) (s q n : Int) (aS : Bool) (aH aL : BitVec 64) (ab b : Int) (hS : Bool) (hH hL : Int) (o : ByteArray) (t sp : Int) (r : Bool) (hr : ∀ w : World, Tabs w → Calls Tryz.prog 47 #[.agg #[.int .i64 k, .int .i64 s, .int .i64 q, .int .i64 n, .bool aS, .int .i64 aH.toInt, .int .i64 aL.toInt, .int .i64 ab, .int .i64 b, .bool hS, .int .i64 hH, .int .i64 hL, .string o, .int .i64 t, .int .i64 sp]] w fun e w' => (∃ v, e = .returned (.tuple #[v, .bool r])) ∧ Below w.heap.size w w') (y : World) (ht : Tabs y) :
    Calls Tryz.prog 24 #[.agg #[.int .i64 k, .int .i64 s, .int .i64 q, .int .i64 n, .bool aS, .int .i64 aH.toInt, .int .i64 aL.toInt, .int .i64 ab, .int .i64 b, .bool hS, .int .i64 hH, .int .i64 hL, .string o, .int .i64 t, .int .i64 sp]] y fun e w' => e = .returned (.bool r) ∧ Below y.heap.size y w' := by
  have HR := hidP hr
  have HT := hidP ht
  have ab := (Below.refl y.heap.size y).alloc (Nat.le_refl _) (.cells #[.int .i64 k, .int .i64 s, .int .i64 q, .int .i64 n, .bool aS, .int .i64 aH.toInt, .int .i64 aL.toInt, .int .i64 ab, .int .i64 b, .bool hS, .int .i64 hH, .int .i64 hL, .string o, .int .i64 t, .int .i64 sp] 35)
  clear hr ht
  go_enter Tryz.func24, Tryz.ntmps24
  go_wp2_with fail
  refine (HR.out _ (HT.out.below ab)).mono ?_
  rintro e w1 ⟨⟨v, rfl⟩, hb⟩
  have HB := hidP (ab.trans (hb.mono (by simp)))
  clear hb
  go_wp2_with fail
  go_ret
  exact ⟨rfl, HB.out⟩

/-- The program's text of an address, of 100 bytes at most. -/
theorem text_I (s : Bool) (h l : Int) (wh : -9223372036854775808 ≤ h ∧ h ≤ 9223372036854775807) (wl : -9223372036854775808 ≤ l ∧ l ≤ 9223372036854775807) :
    ∃ T : List UInt8, T.length ≤ 100 ∧ True ∧ (∀ w : World, Tabs w → Calls Tryz.prog 87 #[.agg #[.bool s, .int .i64 h, .int .i64 l]] w fun e w' => e = .returned (.string ⟨T.toArray⟩) ∧ Below w.heap.size w w') := by
  obtain ⟨S, H, L, hz, _, _, hS⟩ := Nrm_ex s h l wh wl
  cases S
  · obtain ⟨_, h0, h1⟩ := hS rfl
    exact ⟨txt4 L, txt4_len L, trivial, fun w ht => iText_four s h l H L hz h0 h1 w ht⟩
  · exact ⟨txt8 (grp H L), txt8_len _, trivial, fun w ht => iText_six s h l H L hz w ht⟩

theorem ptxt (s : Bool) (H L : BitVec 64) (b : Int) : ∃ T : List UInt8, T.length ≤ 200 ∧ ∀ w : World, Tabs w → Calls Tryz.prog 84 #[.agg #[.bool s, .int .i64 H.toInt, .int .i64 L.toInt, .int .i64 b]] w fun e w' => e = .returned (.string ⟨T.toArray⟩) ∧ Below w.heap.size w w' := by
  cases hp : pokB s H L b
  · exact ⟨[], by simp, fun w _ => iPText_no s H L b hp w⟩
  · have bd : ∀ x : BitVec 64, -9223372036854775808 ≤ x.toInt ∧ x.toInt ≤ 9223372036854775807 := fun x => by
      have h1 := BitVec.toInt_lt (x := x); have h2 := BitVec.le_toInt (x := x); simp at h1 h2; omega
    obtain ⟨T, hT, _, hi⟩ := text_I s H.toInt L.toInt (bd H) (bd L)
    have hb := (pokB_parts hp).2.1
    have hw : (wd s : Int) ≤ 128 := by cases s <;> decide
    have hd := decs_len b
    exact ⟨T ++ [47] ++ decs b, by simp; omega, fun w ht => iPText_yes s H L b T _ hb.1 (by omega) hT hd rfl hi hp w ht⟩
theorem atxt (s : Bool) (H L : Int) (bH : I6 H) (bL : I6 L) : ∃ T : List UInt8, T.length ≤ 200 ∧ ∀ w : World, Tabs w → Calls Tryz.prog 87 #[.agg #[.bool s, .int .i64 H, .int .i64 L]] w fun e w' => e = .returned (.string ⟨T.toArray⟩) ∧ Below w.heap.size w w' := by
  obtain ⟨T, hT, _, hi⟩ := text_I s H L bH bL
  exact ⟨T, by omega, hi⟩

theorem cmd_both (k : Int) (s q n : Int) (aS : Bool) (aH aL : BitVec 64) (ab b : Int) (hS : Bool) (hH hL : Int) (o : ByteArray) (t sp : Int) (HI : CmI s q n b t sp o) (bH : I6 hH) (bL : I6 hL) :
    ∃ r : Bool, (∀ w : World, Calls Tryz.prog 16 #[.agg #[.int .i64 k, .int .i64 s, .int .i64 q, .int .i64 n, .bool aS, .int .i64 aH.toInt, .int .i64 aL.toInt, .int .i64 ab, .int .i64 b, .bool hS, .int .i64 hH, .int .i64 hL, .string o, .int .i64 t, .int .i64 sp]] w fun e w' => e = .returned (.bool r) ∧ Below w.heap.size w w') ∧
      (∀ w : World, Tabs w → Calls Tryz.prog 24 #[.agg #[.int .i64 k, .int .i64 s, .int .i64 q, .int .i64 n, .bool aS, .int .i64 aH.toInt, .int .i64 aL.toInt, .int .i64 ab, .int .i64 b, .bool hS, .int .i64 hH, .int .i64 hL, .string o, .int .i64 t, .int .i64 sp]] w fun e w' => e = .returned (.bool r) ∧ Below w.heap.size w w') := by
  obtain ⟨TA, hA⟩ := ptxt aS aH aL ab
  obtain ⟨TH, hH'⟩ := atxt hS hH hL bH bL
  by_cases e1 : k = 1
  · subst e1
    refine ⟨spC ⟨#[]⟩ 1 s q n aS aH aL ab b hS hH hL o t sp, fun w => sCmd ⟨#[]⟩ (by decide) 1 s q n aS aH aL ab b hS hH hL o t sp HI.o has_1 w, fun w ht => iCmd_of 1 s q n aS aH aL ab b hS hH hL o t sp _ (fun w h => ?_) w ht⟩
    refine (ro_1 s q n aS aH aL ab b hS hH hL o t sp TA TH HI hA hH' w h).mono ?_
    rintro e w' ⟨⟨h1, rfl⟩ | ⟨h1, rfl⟩, hb⟩
    · rw [← eq_1 s q n aS aH aL ab b hS hH hL o t sp TA TH, h1]; exact ⟨⟨_, rfl⟩, hb⟩
    · rw [← eq_1 s q n aS aH aL ab b hS hH hL o t sp TA TH, h1]; exact ⟨⟨_, rfl⟩, hb⟩
  by_cases e2 : k = 2
  · subst e2
    refine ⟨spC ⟨#[115]⟩ 2 s q n aS aH aL ab b hS hH hL o t sp, fun w => sCmd ⟨#[115]⟩ (by decide) 2 s q n aS aH aL ab b hS hH hL o t sp HI.o has_2 w, fun w ht => iCmd_of 2 s q n aS aH aL ab b hS hH hL o t sp _ (fun w h => ?_) w ht⟩
    refine (ro_2 s q n aS aH aL ab b hS hH hL o t sp TA TH HI hA hH' w h).mono ?_
    rintro e w' ⟨⟨h1, rfl⟩ | ⟨h1, rfl⟩, hb⟩
    · rw [← eq_2 s q n aS aH aL ab b hS hH hL o t sp TA TH, h1]; exact ⟨⟨_, rfl⟩, hb⟩
    · rw [← eq_2 s q n aS aH aL ab b hS hH hL o t sp TA TH, h1]; exact ⟨⟨_, rfl⟩, hb⟩
  by_cases e3 : k = 3
  · subst e3
    refine ⟨spC ⟨#[115, 113, 97, 98]⟩ 3 s q n aS aH aL ab b hS hH hL o t sp, fun w => sCmd ⟨#[115, 113, 97, 98]⟩ (by decide) 3 s q n aS aH aL ab b hS hH hL o t sp HI.o has_3 w, fun w ht => iCmd_of 3 s q n aS aH aL ab b hS hH hL o t sp _ (fun w h => ?_) w ht⟩
    refine (ro_3 s q n aS aH aL ab b hS hH hL o t sp TA TH HI hA hH' w h).mono ?_
    rintro e w' ⟨⟨h1, rfl⟩ | ⟨h1, rfl⟩, hb⟩
    · rw [← eq_3 s q n aS aH aL ab b hS hH hL o t sp TA TH, h1]; exact ⟨⟨_, rfl⟩, hb⟩
    · rw [← eq_3 s q n aS aH aL ab b hS hH hL o t sp TA TH, h1]; exact ⟨⟨_, rfl⟩, hb⟩
  by_cases e4 : k = 4
  · subst e4
    refine ⟨spC ⟨#[115, 113, 97]⟩ 4 s q n aS aH aL ab b hS hH hL o t sp, fun w => sCmd ⟨#[115, 113, 97]⟩ (by decide) 4 s q n aS aH aL ab b hS hH hL o t sp HI.o has_4 w, fun w ht => iCmd_of 4 s q n aS aH aL ab b hS hH hL o t sp _ (fun w h => ?_) w ht⟩
    refine (ro_4 s q n aS aH aL ab b hS hH hL o t sp TA TH HI hA hH' w h).mono ?_
    rintro e w' ⟨⟨h1, rfl⟩ | ⟨h1, rfl⟩, hb⟩
    · rw [← eq_4 s q n aS aH aL ab b hS hH hL o t sp TA TH, h1]; exact ⟨⟨_, rfl⟩, hb⟩
    · rw [← eq_4 s q n aS aH aL ab b hS hH hL o t sp TA TH, h1]; exact ⟨⟨_, rfl⟩, hb⟩
  by_cases e5 : k = 5
  · subst e5
    refine ⟨spC ⟨#[115, 113, 97, 111]⟩ 5 s q n aS aH aL ab b hS hH hL o t sp, fun w => sCmd ⟨#[115, 113, 97, 111]⟩ (by decide) 5 s q n aS aH aL ab b hS hH hL o t sp HI.o has_5 w, fun w ht => iCmd_of 5 s q n aS aH aL ab b hS hH hL o t sp _ (fun w h => ?_) w ht⟩
    refine (ro_5 s q n aS aH aL ab b hS hH hL o t sp TA TH HI hA hH' w h).mono ?_
    rintro e w' ⟨⟨h1, rfl⟩ | ⟨h1, rfl⟩, hb⟩
    · rw [← eq_5 s q n aS aH aL ab b hS hH hL o t sp TA TH, h1]; exact ⟨⟨_, rfl⟩, hb⟩
    · rw [← eq_5 s q n aS aH aL ab b hS hH hL o t sp TA TH, h1]; exact ⟨⟨_, rfl⟩, hb⟩
  by_cases e6 : k = 6
  · subst e6
    refine ⟨spC ⟨#[115, 113, 97, 111]⟩ 6 s q n aS aH aL ab b hS hH hL o t sp, fun w => sCmd ⟨#[115, 113, 97, 111]⟩ (by decide) 6 s q n aS aH aL ab b hS hH hL o t sp HI.o has_6 w, fun w ht => iCmd_of 6 s q n aS aH aL ab b hS hH hL o t sp _ (fun w h => ?_) w ht⟩
    refine (ro_6 s q n aS aH aL ab b hS hH hL o t sp TA TH HI hA hH' w h).mono ?_
    rintro e w' ⟨⟨h1, rfl⟩ | ⟨h1, rfl⟩, hb⟩
    · rw [← eq_6 s q n aS aH aL ab b hS hH hL o t sp TA TH, h1]; exact ⟨⟨_, rfl⟩, hb⟩
    · rw [← eq_6 s q n aS aH aL ab b hS hH hL o t sp TA TH, h1]; exact ⟨⟨_, rfl⟩, hb⟩
  by_cases e7 : k = 7
  · subst e7
    refine ⟨spC ⟨#[115, 113, 97, 111, 112]⟩ 7 s q n aS aH aL ab b hS hH hL o t sp, fun w => sCmd ⟨#[115, 113, 97, 111, 112]⟩ (by decide) 7 s q n aS aH aL ab b hS hH hL o t sp HI.o has_7 w, fun w ht => iCmd_of 7 s q n aS aH aL ab b hS hH hL o t sp _ (fun w h => ?_) w ht⟩
    refine (ro_7 s q n aS aH aL ab b hS hH hL o t sp TA TH HI hA hH' w h).mono ?_
    rintro e w' ⟨⟨h1, rfl⟩ | ⟨h1, rfl⟩, hb⟩
    · rw [← eq_7 s q n aS aH aL ab b hS hH hL o t sp TA TH, h1]; exact ⟨⟨_, rfl⟩, hb⟩
    · rw [← eq_7 s q n aS aH aL ab b hS hH hL o t sp TA TH, h1]; exact ⟨⟨_, rfl⟩, hb⟩
  by_cases e8 : k = 8
  · subst e8
    refine ⟨spC ⟨#[115, 113, 104, 111, 112]⟩ 8 s q n aS aH aL ab b hS hH hL o t sp, fun w => sCmd ⟨#[115, 113, 104, 111, 112]⟩ (by decide) 8 s q n aS aH aL ab b hS hH hL o t sp HI.o has_8 w, fun w ht => iCmd_of 8 s q n aS aH aL ab b hS hH hL o t sp _ (fun w h => ?_) w ht⟩
    refine (ro_8 s q n aS aH aL ab b hS hH hL o t sp TA TH HI hA hH' w h).mono ?_
    rintro e w' ⟨⟨h1, rfl⟩ | ⟨h1, rfl⟩, hb⟩
    · rw [← eq_8 s q n aS aH aL ab b hS hH hL o t sp TA TH, h1]; exact ⟨⟨_, rfl⟩, hb⟩
    · rw [← eq_8 s q n aS aH aL ab b hS hH hL o t sp TA TH, h1]; exact ⟨⟨_, rfl⟩, hb⟩
  by_cases e9 : k = 9
  · subst e9
    refine ⟨spC ⟨#[115, 113, 104, 116, 112]⟩ 9 s q n aS aH aL ab b hS hH hL o t sp, fun w => sCmd ⟨#[115, 113, 104, 116, 112]⟩ (by decide) 9 s q n aS aH aL ab b hS hH hL o t sp HI.o has_9 w, fun w ht => iCmd_of 9 s q n aS aH aL ab b hS hH hL o t sp _ (fun w h => ?_) w ht⟩
    refine (ro_9 s q n aS aH aL ab b hS hH hL o t sp TA TH HI hA hH' w h).mono ?_
    rintro e w' ⟨⟨h1, rfl⟩ | ⟨h1, rfl⟩, hb⟩
    · rw [← eq_9 s q n aS aH aL ab b hS hH hL o t sp TA TH, h1]; exact ⟨⟨_, rfl⟩, hb⟩
    · rw [← eq_9 s q n aS aH aL ab b hS hH hL o t sp TA TH, h1]; exact ⟨⟨_, rfl⟩, hb⟩
  by_cases e10 : k = 10
  · subst e10
    refine ⟨spC ⟨#[115, 113, 104, 116]⟩ 10 s q n aS aH aL ab b hS hH hL o t sp, fun w => sCmd ⟨#[115, 113, 104, 116]⟩ (by decide) 10 s q n aS aH aL ab b hS hH hL o t sp HI.o has_10 w, fun w ht => iCmd_of 10 s q n aS aH aL ab b hS hH hL o t sp _ (fun w h => ?_) w ht⟩
    refine (ro_10 s q n aS aH aL ab b hS hH hL o t sp TA TH HI hA hH' w h).mono ?_
    rintro e w' ⟨⟨h1, rfl⟩ | ⟨h1, rfl⟩, hb⟩
    · rw [← eq_10 s q n aS aH aL ab b hS hH hL o t sp TA TH, h1]; exact ⟨⟨_, rfl⟩, hb⟩
    · rw [← eq_10 s q n aS aH aL ab b hS hH hL o t sp TA TH, h1]; exact ⟨⟨_, rfl⟩, hb⟩
  by_cases e11 : k = 11
  · subst e11
    refine ⟨spC ⟨#[]⟩ 11 s q n aS aH aL ab b hS hH hL o t sp, fun w => sCmd ⟨#[]⟩ (by decide) 11 s q n aS aH aL ab b hS hH hL o t sp HI.o has_11 w, fun w ht => iCmd_of 11 s q n aS aH aL ab b hS hH hL o t sp _ (fun w h => ?_) w ht⟩
    refine (ro_11 s q n aS aH aL ab b hS hH hL o t sp TA TH HI hA hH' w h).mono ?_
    rintro e w' ⟨⟨h1, rfl⟩ | ⟨h1, rfl⟩, hb⟩
    · rw [← eq_11 s q n aS aH aL ab b hS hH hL o t sp TA TH, h1]; exact ⟨⟨_, rfl⟩, hb⟩
    · rw [← eq_11 s q n aS aH aL ab b hS hH hL o t sp TA TH, h1]; exact ⟨⟨_, rfl⟩, hb⟩
  have hz : spC ⟨#[]⟩ k s q n aS aH aL ab b hS hH hL o t sp = false := by
    unfold spC
    have : rB 1 k 11 = false := by unfold rB; rw [Bool.and_eq_false_iff, decide_eq_false_iff_not, decide_eq_false_iff_not]; omega
    rw [this, Bool.false_and]
  refine ⟨false, fun w => ?_, fun w ht => iCmd_of k s q n aS aH aL ab b hS hH hL o t sp _ (fun w h => ?_) w ht⟩
  · have := sCmd ⟨#[]⟩ (by decide) k s q n aS aH aL ab b hS hH hL o t sp HI.o (fun w => has_no k w (by simp [e2]) (by simp [e3]) (by simp [e4]) (by simp [e5]) (by simp [e6]) (by simp [e7]) (by simp [e8]) (by simp [e9]) (by simp [e10])) w
    rw [hz] at this
    exact this
  · refine (ro_no k s q n aS aH aL ab b hS hH hL o t sp w (by simp [e1]) (by simp [e2]) (by simp [e3]) (by simp [e4]) (by simp [e5]) (by simp [e6]) (by simp [e7]) (by simp [e8]) (by simp [e9]) (by simp [e10]) (by simp [e11])).mono ?_
    rintro e w' ⟨rfl, hb⟩
    exact ⟨⟨_, rfl⟩, hb⟩

end Go.Proofs.YthjpapninnbdkaaGreatDoor
namespace Go.Proofs.YthjpapninnbdkaaGreatDoor
open Go.RowKit

theorem cmdZ_len (k s q n : Int) (aS : Bool) (aH aL : BitVec 64) (ab b : Int) (hS : Bool) (hH hL : Int) (o : ByteArray) (t sp : Int) (ho : o.size ≤ 1048576) : ([numsB [k, s, q, n], adrB aS aH.toInt aL.toInt, numsB [ab, b], adrB hS hH hL, txtB o, numsB [t, sp]].flatten).length ≤ 2000000 := by
  have h1 := numsB_len [k, s, q, n]
  have h2 := adrB_len aS aH.toInt aL.toInt
  have h3 := numsB_len [ab, b]
  have h4 := adrB_len hS hH hL
  have h5 : (txtB o).length ≤ 10 + o.size := by unfold txtB; rw [List.length_append, bys_len]; have := numB_ten _ (u64_lt (o.size : Int)); omega
  have h6 := numsB_len [t, sp]
  simp only [List.flatten_cons, List.flatten_nil, List.length_append, List.length_nil, List.length_cons] at *
  omega
set_option maxRecDepth 10000 in
set_option maxHeartbeats 2000000 in
theorem sPut_no (k s q n : Int) (aS : Bool) (aH aL : BitVec 64) (ab b : Int) (hS : Bool) (hH hL : Int) (o : ByteArray) (t sp : Int) (Zf : List Int) (hZf : [] = Zf) (w : World) (hr : ∀ W : World, Below w.heap.size w W → Calls Tryz.prog 16 #[.agg #[.int .i64 k, .int .i64 s, .int .i64 q, .int .i64 n, .bool aS, .int .i64 aH.toInt, .int .i64 aL.toInt, .int .i64 ab, .int .i64 b, .bool hS, .int .i64 hH, .int .i64 hL, .string o, .int .i64 t, .int .i64 sp]] W fun e w' => e = .returned (.bool false) ∧ Below W.heap.size W w') :
    Calls Tryz.prog 6 #[.agg #[.int .i64 k, .int .i64 s, .int .i64 q, .int .i64 n, .bool aS, .int .i64 aH.toInt, .int .i64 aL.toInt, .int .i64 ab, .int .i64 b, .bool hS, .int .i64 hH, .int .i64 hL, .string o, .int .i64 t, .int .i64 sp]] w fun e w' => ∃ g c, e = .returned (.slice (some ⟨g, 0, none⟩) Zf.length c) ∧ Own w' w.heap.size (.slice (some ⟨g, 0, none⟩) Zf.length c) Zf ∧ Below w.heap.size w w' := by
  subst hZf
  have HR := hidP hr
  clear hr
  go_enter Tryz.func6, Tryz.ntmps6
  go_wp2_with fail
  refine (HR.out _ (alloc_below w _)).mono ?_
  rintro e W ⟨rfl, hb⟩
  have HB := hidP ((alloc_below w _).trans (hb.mono (alloc_below w _).size))
  have hz := HB.out.size
  clear hb
  go_wp2_with fail
  go_ret
  exact ⟨W.heap.size, 0, rfl, own_nil W _ hz, HB.out.alloc hz _⟩

set_option maxRecDepth 10000 in
set_option maxHeartbeats 2000000 in
theorem iPut_no (k s q n : Int) (aS : Bool) (aH aL : BitVec 64) (ab b : Int) (hS : Bool) (hH hL : Int) (o : ByteArray) (t sp : Int) (Zf : List Int) (hZf : [] = Zf) (w : World) (hr : ∀ W : World, Below w.heap.size w W → Calls Tryz.prog 24 #[.agg #[.int .i64 k, .int .i64 s, .int .i64 q, .int .i64 n, .bool aS, .int .i64 aH.toInt, .int .i64 aL.toInt, .int .i64 ab, .int .i64 b, .bool hS, .int .i64 hH, .int .i64 hL, .string o, .int .i64 t, .int .i64 sp]] W fun e w' => e = .returned (.bool false) ∧ Below W.heap.size W w') :
    Calls Tryz.prog 8 #[.agg #[.int .i64 k, .int .i64 s, .int .i64 q, .int .i64 n, .bool aS, .int .i64 aH.toInt, .int .i64 aL.toInt, .int .i64 ab, .int .i64 b, .bool hS, .int .i64 hH, .int .i64 hL, .string o, .int .i64 t, .int .i64 sp]] w fun e w' => ∃ g c, e = .returned (.slice (some ⟨g, 0, none⟩) Zf.length c) ∧ Own w' w.heap.size (.slice (some ⟨g, 0, none⟩) Zf.length c) Zf ∧ Below w.heap.size w w' := by
  subst hZf
  have HR := hidP hr
  clear hr
  go_enter Tryz.func8, Tryz.ntmps8
  go_wp2_with fail
  refine (HR.out _ (alloc_below w _)).mono ?_
  rintro e W ⟨rfl, hb⟩
  have HB := hidP ((alloc_below w _).trans (hb.mono (alloc_below w _).size))
  have hz := HB.out.size
  clear hb
  go_wp2_with fail
  go_ret
  exact ⟨W.heap.size, 0, rfl, own_nil W _ hz, HB.out.alloc hz _⟩

theorem put_both (k s q n : Int) (aS : Bool) (aH aL : BitVec 64) (ab b : Int) (hS : Bool) (hH hL : Int) (o : ByteArray) (t sp : Int) (HI : CmI s q n b t sp o) (bH : I6 hH) (bL : I6 hL) (ho : o.size ≤ 1048576) : ∃ Zf : List Int, Zf.length ≤ 2000000 ∧
    (∀ w : World, Calls Tryz.prog 6 #[.agg #[.int .i64 k, .int .i64 s, .int .i64 q, .int .i64 n, .bool aS, .int .i64 aH.toInt, .int .i64 aL.toInt, .int .i64 ab, .int .i64 b, .bool hS, .int .i64 hH, .int .i64 hL, .string o, .int .i64 t, .int .i64 sp]] w fun e w' => ∃ g c, e = .returned (.slice (some ⟨g, 0, none⟩) Zf.length c) ∧ Own w' w.heap.size (.slice (some ⟨g, 0, none⟩) Zf.length c) Zf ∧ Below w.heap.size w w') ∧
    (∀ w : World, Tabs w → Calls Tryz.prog 8 #[.agg #[.int .i64 k, .int .i64 s, .int .i64 q, .int .i64 n, .bool aS, .int .i64 aH.toInt, .int .i64 aL.toInt, .int .i64 ab, .int .i64 b, .bool hS, .int .i64 hH, .int .i64 hL, .string o, .int .i64 t, .int .i64 sp]] w fun e w' => ∃ g c, e = .returned (.slice (some ⟨g, 0, none⟩) Zf.length c) ∧ Own w' w.heap.size (.slice (some ⟨g, 0, none⟩) Zf.length c) Zf ∧ Below w.heap.size w w') := by
  obtain ⟨r, cS, cI⟩ := cmd_both k s q n aS aH aL ab b hS hH hL o t sp HI bH bL
  cases r
  · exact ⟨[], by simp, fun w => sPut_no k s q n aS aH aL ab b hS hH hL o t sp [] rfl w (fun W _ => cS W), fun w ht => iPut_no k s q n aS aH aL ab b hS hH hL o t sp [] rfl w (fun W hb => cI W (ht.below hb))⟩
  · exact ⟨_, cmdZ_len k s q n aS aH aL ab b hS hH hL o t sp ho, fun w => sPut_yes k s q n aS aH aL ab b hS hH hL o t sp _ rfl ho w (fun W => cS W), fun w ht => iPut_yes k s q n aS aH aL ab b hS hH hL o t sp _ rfl ho w (fun W hb => cI W (ht.below hb))⟩

end Go.Proofs.YthjpapninnbdkaaGreatDoor
namespace Go.Proofs.YthjpapninnbdkaaGreatDoor
open Go.RowKit

/-- The marks k, k + 1 .. of n bytes. -/
def mks (k : Int) (n : Nat) : List Int := (List.range n).map fun (j : Nat) => IntKind.u8.wrap (k + (j : Int))
theorem mks_len (k : Int) (n : Nat) : (mks k n).length = n := by simp [mks]
theorem mks_at (k : Int) (n j : Nat) (h : j < n) : (mks k n)[j]? = some (IntKind.u8.wrap (k + (j : Int))) := by simp [mks, h]
theorem mks_step (k : Int) (n i : Nat) (zs : List Int) (hl : zs.length = n) (hi : i < n) :
    (((mks k i ++ zs.drop i).map (Value.int .u8)).set i (.int .u8 (IntKind.u8.wrap (k + (i : Int))))) = (mks k (i + 1) ++ zs.drop (i + 1)).map (Value.int .u8) := by
  have e : mks k (i + 1) = mks k i ++ [IntKind.u8.wrap (k + (i : Int))] := by simp [mks, List.range_succ]
  have hd : zs.drop i = zs[i] :: zs.drop (i + 1) := List.drop_eq_getElem_cons (by omega)
  rw [e, hd, List.map_append, List.set_append_right _ _ (by simp [mks]), List.map_cons]
  simp [mks]

set_option maxRecDepth 10000 in
set_option maxHeartbeats 1000000 in
theorem markByteS_any (a : Option Addr) (cap B : Nat) (zs : List Int) (k : Int) (w : World) (h : Own w B (.slice a zs.length cap) zs) (hl : zs.length ≤ 9000000000) (k0 : 0 ≤ k) (k1 : k ≤ 9000000000) :
    Calls Tryz.prog 10 #[.slice a zs.length cap, .int .i64 k] w fun e w' => e = .returned (.int .i64 (k + zs.length)) ∧ Own w' B (.slice a zs.length cap) (mks k zs.length) ∧ w.grownBy w' (Value.slice a zs.length cap).ownBlock := by
  obtain ⟨n, hn⟩ : ∃ n, n = zs.length := ⟨_, rfl⟩
  rw [← hn]
  rw [← hn] at hl h
  have hn' : zs.length = n := hn.symm
  clear hn
  by_cases h0 : n = 0
  · subst h0
    have HO : Hid (Own w B (.slice a 0 cap) zs) := h
    have HZ : Hid (zs = []) := List.length_eq_zero_iff.1 hn'
    clear h hn'
    go_enter Tryz.func10, Tryz.ntmps10
    go_wp2
    refine wp_loop_rounds 1 ?_
    rw [rounds_succ]
    go_wp2
    go_ret
    refine ⟨by simp, ?_, World.grownBy.refl _ _⟩
    have := HO.out; rw [HZ.out] at this; simpa [mks] using this
  · obtain ⟨g, rfl⟩ : ∃ g, a = some ⟨g, 0, none⟩ := by
      rcases h.2 with ⟨hv, _⟩ | ⟨g, cap', cur, hv, _⟩
      · simp at hv; omega
      · simp at hv; exact ⟨g, hv.1⟩
    have HO : Hid (w.ownsRow B 5 1 (.slice (some ⟨g, 0, none⟩) n cap) n ((mks k 0 ++ zs.drop 0).map (Value.int .u8))) := by
      unfold Hid; unfold Own at h; rw [hn'] at h; simpa [mks] using h
    have HN : Hid (zs.length = n) := hn'
    clear h hn'
    go_enter Tryz.func10, Tryz.ntmps10
    go_wp2
    go_loopw [1, 5] (fun t1 t5 wr => ∃ i : Nat, i ≤ n ∧ t5 = .int .i64 i ∧ t1 = .int .i64 (k + i) ∧ wr.ownsRow B 5 1 (.slice (some ⟨g, 0, none⟩) n cap) n ((mks k i ++ zs.drop i).map (Value.int .u8)) ∧ w.grownBy wr (some g)) (fun _ t5 _ => n - (intOf t5).toNat)
    case atStart => exact ⟨0, Nat.zero_le _, rfl, by simp, HO.out, World.grownBy.refl _ _⟩
    case round =>
      obtain ⟨i, hi, rfl, rfl, hown, hgr⟩ := hrel
      by_cases hlt : i < n
      · have ce : ∃ v, wr.cell? ⟨g, i, none⟩ = some v := by
          have h := hown.cellAt i (by omega)
          rw [h, List.getElem?_eq_getElem (by have := HN.out; simp [mks]; omega)]
          exact ⟨_, rfl⟩
        obtain ⟨v0, ce⟩ := ce
        have cf := hown.frozenAt i
        have st := hown.stored i (.int .u8 (IntKind.u8.wrap (k + (i : Int))))
        rw [mks_step k n i zs HN.out hlt] at st
        have HS : Hid (_ ∧ _) := st
        have HG : Hid (w.grownBy wr (some g)) := hgr
        clear st hown hgr HO
        go_wp2
        go_roundw
        case rel => exact ⟨i + 1, by omega, by go_num, by go_num, HS.out.1, HG.out.trans HS.out.2⟩
        case measure => simp [intOf]; omega
      · have hin : i = n := by omega
        subst hin
        have HS : Hid (Own wr B (.slice (some ⟨g, 0, none⟩) i cap) (mks k i)) := by
          unfold Hid Own
          rw [mks_len]
          rw [List.drop_of_length_le (by rw [HN.out]; exact Nat.le_refl _), List.append_nil] at hown
          exact hown
        have HG : Hid (w.grownBy wr (some g)) := hgr
        clear hown hgr HO
        go_wp2
        go_ret
        exact ⟨rfl, HS.out, HG.out⟩

set_option maxRecDepth 10000 in
set_option maxHeartbeats 1000000 in
theorem heldByteS_any (a : Option Addr) (cap n : Nat) (k : Int) (w : World) (h : Byt w a (mks k n)) (hl : n ≤ 9000000000) (k0 : 0 ≤ k) (k1 : k ≤ 9000000000) :
    Calls Tryz.prog 11 #[.slice a n cap, .int .i64 k] w fun e w' => e = .returned (.int .i64 (k + n)) ∧ Below w.heap.size w w' := by
  have HB : Hid (Byt w a (mks k n)) := h
  clear h
  go_enter Tryz.func11, Tryz.ntmps11
  go_wp2
  go_loop [1, 5] (fun t1 t5 => ∃ i : Nat, i ≤ n ∧ t5 = .int .i64 i ∧ t1 = .int .i64 (k + i)) (fun _ t5 => n - (intOf t5).toNat)
  case atStart => exact ⟨0, Nat.zero_le _, rfl, by simp⟩
  case round =>
    obtain ⟨i, hi, rfl, rfl⟩ := hrel
    by_cases hlt : i < n
    · obtain ⟨p, o, z, rfl, hp, hc, hz⟩ := HB.out i (by rw [mks_len]; exact hlt)
      rw [mks_at k n i hlt] at hz
      have hz' : IntKind.u8.wrap (k + (i : Int)) = z := by simpa using hz
      subst hz'
      clear hz
      have hb1 : (IntKind.u8.wrap (k + (i : Int)) != IntKind.u8.wrap (k + (i : Int))) = false := by simp
      go_wp2
      go_round
      case rel => exact ⟨i + 1, by omega, by go_num, by go_num⟩
      case measure => simp [intOf]; omega
    · have hin : i = n := by omega
      subst hin
      go_wp2
      go_ret
      exact ⟨rfl, Below.refl _ _⟩

end Go.Proofs.YthjpapninnbdkaaGreatDoor
namespace Go.Proofs.YthjpapninnbdkaaGreatDoor
open Go.RowKit

set_option maxRecDepth 10000 in
set_option maxHeartbeats 4000000 in
theorem toCmd_any (k : Int) (s q n : Int) (aS : Bool) (aH aL : BitVec 64) (ab b : Int) (hS : Bool) (hH hL : Int) (o : ByteArray) (t sp : Int) (y : World) :
    Calls Tryz.prog 7 #[.agg #[.int .i64 k, .int .i64 s, .int .i64 q, .int .i64 n, .bool aS, .int .i64 aH.toInt, .int .i64 aL.toInt, .int .i64 ab, .int .i64 b, .bool hS, .int .i64 hH, .int .i64 hL, .string o, .int .i64 t, .int .i64 sp]] y fun e w' => e = .returned (.agg #[.int .i64 k, .int .i64 s, .int .i64 q, .int .i64 n, .bool aS, .int .i64 aH.toInt, .int .i64 aL.toInt, .int .i64 ab, .int .i64 b, .bool hS, .int .i64 hH, .int .i64 hL, .string o, .int .i64 t, .int .i64 sp]) ∧ Below y.heap.size y w' := by
  have HP := hidP (toPrefix_any aS aH.toInt aL.toInt ab)
  have HA := hidP (toAddr_any hS hH hL)
  go_enter Tryz.func7, Tryz.ntmps7
  go_wp2_with fail
  refine (HP.out _).mono ?_
  rintro e w1 ⟨rfl, hb1⟩
  obtain ⟨hc1, hf1⟩ := olds (n := y.heap.size + 3) (hb1.mono (by simp))
  have l1 : y.heap.size + 3 ≤ w1.heap.size := by have := hb1.size; simp at this; omega
  have z0 : y.heap.size < w1.heap.size := by omega
  have z1 : y.heap.size + 1 < w1.heap.size := by omega
  have z2 : y.heap.size + 1 + 1 < w1.heap.size := by omega
  have HB1 : Hid (Below y.heap.size y w1) := hidP (Below.trans (by repeat (first | with_reducible exact Below.refl _ _ | (with_reducible refine Below.setCell ?_ (by first | omega | (simp; done) | (simp; omega)) _) | (with_reducible refine Below.alloc ?_ (by first | omega | (simp; done) | (simp; omega)) _))) (hb1.mono (by simp; omega)))
  clear hb1
  go_wp2_with fail
  refine (HA.out _).mono ?_
  rintro e w2 ⟨rfl, hb2⟩
  obtain ⟨hc2, hf2⟩ := olds (n := y.heap.size + 3) (hb2.mono (by simp; omega))
  have l2 : y.heap.size + 3 ≤ w2.heap.size := by have := hb2.size; simp at this; omega
  have y0 : y.heap.size < w2.heap.size := by omega
  have y1 : y.heap.size + 1 < w2.heap.size := by omega
  have y2 : y.heap.size + 1 + 1 < w2.heap.size := by omega
  have HB2 : Hid (Below y.heap.size y w2) := hidP (Below.trans (by repeat (first | with_reducible exact HB1.out | (with_reducible refine Below.setCell ?_ (by first | omega | (simp; done) | (simp; omega)) _))) (hb2.mono (by simp; omega)))
  clear hb2
  go_wp2_with fail
  refine bodyPost_ret (v := .agg #[.int .i64 k, .int .i64 s, .int .i64 q, .int .i64 n, .bool aS, .int .i64 aH.toInt, .int .i64 aL.toInt, .int .i64 ab, .int .i64 b, .bool hS, .int .i64 hH, .int .i64 hL, .string o, .int .i64 t, .int .i64 sp]) (by simp [results, Tryz.results7, go_sem, hc1, hc2]) rfl ⟨rfl, ?_⟩
  repeat (first | with_reducible exact HB2.out | (with_reducible refine Below.setCell ?_ (by first | omega | (simp; done) | (simp; omega)) _))

set_option maxHeartbeats 400000 in
theorem szCmd_any (k : Int) (s q n : Int) (aS : Bool) (aH aL : BitVec 64) (ab b : Int) (hS : Bool) (hH hL : Int) (o : ByteArray) (t sp : Int) (left : Int) (hl : left = 1048576) (ho : o.size ≤ 9223372036854775807) (y : World) :
    Calls Tryz.prog 5 #[.agg #[.int .i64 k, .int .i64 s, .int .i64 q, .int .i64 n, .bool aS, .int .i64 aH.toInt, .int .i64 aL.toInt, .int .i64 ab, .int .i64 b, .bool hS, .int .i64 hH, .int .i64 hL, .string o, .int .i64 t, .int .i64 sp], .int .i64 left] y fun e w' => (∃ z : Int, (0 ≤ z → o.size ≤ 1048576) ∧ e = .returned (.int .i64 z)) ∧ Below y.heap.size y w' := by
  subst hl
  have ab := (Below.refl y.heap.size y).alloc (Nat.le_refl _) (.cells #[.int .i64 k, .int .i64 s, .int .i64 q, .int .i64 n, .bool aS, .int .i64 aH.toInt, .int .i64 aL.toInt, .int .i64 ab, .int .i64 b, .bool hS, .int .i64 hH, .int .i64 hL, .string o, .int .i64 t, .int .i64 sp] 27)
  by_cases h : (o.size : Int) ≤ 1048576
  · have d : ¬ ((1048576 : Int) - (o.size : Int) < 0) := by omega
    go_enter Tryz.func5, Tryz.ntmps5
    go_wp2_with fail
    go_ret
    exact ⟨⟨_, fun _ => by omega, rfl⟩, ab⟩
  · have d : (1048576 : Int) - (o.size : Int) < 0 := by omega
    go_enter Tryz.func5, Tryz.ntmps5
    go_wp2_with fail
    go_ret
    exact ⟨⟨-1, fun q => by omega, rfl⟩, ab⟩

end Go.Proofs.YthjpapninnbdkaaGreatDoor
namespace Go.Proofs.YthjpapninnbdkaaGreatDoor
open Go.ChangeShapes Go.WideShapes Go.ChangeAt Go.RowKit Go.Joins Go.Deep

theorem array15 {α : Type} {cs : Array α} (h : cs.size = 15) : ∃ c0 c1 c2 c3 c4 c5 c6 c7 c8 c9 c10 c11 c12 c13 c14, cs = #[c0, c1, c2, c3, c4, c5, c6, c7, c8, c9, c10, c11, c12, c13, c14] := by
  obtain ⟨l⟩ := cs
  match l, h with
  | [c0, c1, c2, c3, c4, c5, c6, c7, c8, c9, c10, c11, c12, c13, c14], _ => exact ⟨c0, c1, c2, c3, c4, c5, c6, c7, c8, c9, c10, c11, c12, c13, c14, rfl⟩
theorem wfI {x : Int} (h : (Lit.int .i64 x).wf = true) : I6 x := by
  unfold I6; simpa [Lit.wf, IntKind.min, IntKind.max, IntKind.signed, IntKind.bits] using h
theorem wfB {x : Int} (h : (Lit.int .i64 x).wf = true) : (BitVec.ofInt 64 x).toInt = x := by
  have := wfI h; unfold I6 at this
  rw [BitVec.toInt_ofInt]; simp only [Int.bmod]; omega
set_option maxRecDepth 100000 in
set_option maxHeartbeats 1000000 in
theorem openCmd {H : Type} {enc : TypeId × Value → H} {W : World} {r : Reach} {b0 : Nat} {v : Value} {d : DataW H} {p : List MemPlace} (hv : Value.okWide Tryz.prog W r b0 27 v)
    (h : DataW.Trod enc Tryz.prog W 0 (fun _ => true) true 27 v d p) : ∃ (k s q n : Int) (aS : Bool) (aH aL : BitVec 64) (ab b : Int) (hS : Bool) (hH hL : Int) (o : ByteArray) (t sp : Int),
    v = .agg #[.int .i64 k, .int .i64 s, .int .i64 q, .int .i64 n, .bool aS, .int .i64 aH.toInt, .int .i64 aL.toInt, .int .i64 ab, .int .i64 b, .bool hS, .int .i64 hH, .int .i64 hL, .string o, .int .i64 t, .int .i64 sp] ∧ (I6 s ∧ I6 q ∧ I6 n ∧ I6 b ∧ I6 t ∧ I6 sp) ∧ I6 hH ∧ I6 hL ∧ o.size ≤ 9223372036854775807 := by
  obtain ⟨cs, rfl, hsz⟩ := okWide_struct Tryz.underlying27 hv
  have hC : Tryz.prog.cellsOf 27 = 15 := by kernel_rfl
  obtain ⟨c0, c1, c2, c3, c4, c5, c6, c7, c8, c9, c10, c11, c12, c13, c14, rfl⟩ := array15 (hsz.trans hC)
  obtain ⟨fuel, hf⟩ := h
  obtain ⟨xs, n, _, _, _, hlen, hx⟩ := DataW.trod_struct Tryz.underlying27 hf
  have kA : Tryz.prog.cellsOf 23 = 3 := by kernel_rfl
  have kP : Tryz.prog.cellsOf 25 = 4 := by kernel_rfl
  have ki : Tryz.prog.cellsOf 3 = 1 := by kernel_rfl
  have kb : Tryz.prog.cellsOf 4 = 1 := by kernel_rfl
  have ks : Tryz.prog.cellsOf 9 = 1 := by kernel_rfl
  match xs, hlen with
  | [y0, y1, y2, y3, y4, y5, y6, y7, y8, y9], _ =>
    have f0 := hx 0 _ rfl; have f1 := hx 1 _ rfl; have f2 := hx 2 _ rfl; have f3 := hx 3 _ rfl; have f4 := hx 4 _ rfl
    have f5 := hx 5 _ rfl; have f6 := hx 6 _ rfl; have f7 := hx 7 _ rfl; have f8 := hx 8 _ rfl; have f9 := hx 9 _ rfl
    simp [Value.cells, kA, kP, ki, ks] at f0 f1 f2 f3 f4 f5 f6 f7 f8 f9
    obtain ⟨z0, z1, m, _, _, g0, g1⟩ := trod_struct2 Tryz.underlying25 f4
    simp [kA, ki] at g0 g1
    obtain ⟨u0, u1, u2, m2, _, _, j0, j1, j2⟩ := trod_struct3 Tryz.underlying23 g0
    simp [ki, kb] at j0 j1 j2
    obtain ⟨w0, w1, w2, m3, _, _, l0, l1, l2⟩ := trod_struct3 Tryz.underlying23 f6
    simp [ki, kb] at l0 l1 l2
    obtain ⟨k, e0, _, _⟩ := DataW.trod_int Tryz.underlying3 f0
    obtain ⟨s, e1, _, ws⟩ := DataW.trod_int Tryz.underlying3 f1
    obtain ⟨q, e2, _, wq⟩ := DataW.trod_int Tryz.underlying3 f2
    obtain ⟨n', e3, _, wn⟩ := DataW.trod_int Tryz.underlying3 f3
    obtain ⟨aS, e4, _⟩ := DataW.trod_bool Tryz.underlying4 j0
    obtain ⟨aH, e5, _, wH⟩ := DataW.trod_int Tryz.underlying3 j1
    obtain ⟨aL, e6, _, wL⟩ := DataW.trod_int Tryz.underlying3 j2
    obtain ⟨ab, e7, _, _⟩ := DataW.trod_int Tryz.underlying3 g1
    obtain ⟨b, e8, _, wb⟩ := DataW.trod_int Tryz.underlying3 f5
    obtain ⟨hS, e9, _⟩ := DataW.trod_bool Tryz.underlying4 l0
    obtain ⟨hH, e10, _, wh⟩ := DataW.trod_int Tryz.underlying3 l1
    obtain ⟨hL, e11, _, wl⟩ := DataW.trod_int Tryz.underlying3 l2
    obtain ⟨o, e12, _, wo⟩ := DataW.trod_string Tryz.underlying9 f7
    obtain ⟨t, e13, _, wt⟩ := DataW.trod_int Tryz.underlying3 f8
    obtain ⟨sp, e14, _, wp⟩ := DataW.trod_int Tryz.underlying3 f9
    simp at e0 e1 e2 e3 e4 e5 e6 e7 e8 e9 e10 e11 e12 e13 e14
    subst e0 e1 e2 e3 e4 e5 e6 e7 e8 e9 e10 e11 e12 e13 e14
    refine ⟨k, s, q, n', aS, BitVec.ofInt 64 aH, BitVec.ofInt 64 aL, ab, b, hS, hH, hL, o, t, sp, by rw [wfB wH, wfB wL], ⟨wfI ws, wfI wq, wfI wn, wfI wb, wfI wt, wfI wp⟩, wfI wh, wfI wl, ?_⟩
    unfold maxLen at wo; omega

end Go.Proofs.YthjpapninnbdkaaGreatDoor
namespace Go.Proofs.YthjpapninnbdkaaGreatDoor
open Go.ChangeShapes Go.WideShapes Go.ChangeAt Go.RowKit Go.Joins Go.Deep

theorem Bx.grown {x y : World} {p : Nat} {vs : List Value} {b : Option Nat} (h : Bx x p vs) (hg : x.grownBy y b) (hne : b ≠ some p) : Bx y p vs :=
  ⟨fun i v hv => by rw [World.cell?_of_block (w := x) (hg.block p h.lt (fun e => hne e.symm))]; exact h.cel i v hv, fun o => by rw [World.frozen?_of_block (w := x) (hg.block p h.lt (fun e => hne e.symm))]; exact h.frz o, Nat.lt_of_lt_of_le h.lt hg.size⟩

set_option maxRecDepth 10000 in
set_option maxHeartbeats 8000000 in
theorem lawCmd (k s q n : Int) (aS : Bool) (aH aL : BitVec 64) (ab b : Int) (hS : Bool) (hH hL : Int) (o : ByteArray) (t sp : Int) (h6 : I6 s ∧ I6 q ∧ I6 n ∧ I6 b ∧ I6 t ∧ I6 sp) (bH : I6 hH) (bL : I6 hL) (ho : o.size ≤ 9223372036854775807) (y : World) (ht : Tabs y) :
    Calls Tryz.prog 3 #[.agg #[.int .i64 k, .int .i64 s, .int .i64 q, .int .i64 n, .bool aS, .int .i64 aH.toInt, .int .i64 aL.toInt, .int .i64 ab, .int .i64 b, .bool hS, .int .i64 hH, .int .i64 hL, .string o, .int .i64 t, .int .i64 sp]] y fun e w' => e = .returned (.bool true) ∧ Below y.heap.size y w' := by
  have HSz := hidP (fun w => szCmd_any k s q n aS aH aL ab b hS hH hL o t sp 1048576 rfl ho w)
  have HTo := hidP (fun w => toCmd_any k s q n aS aH aL ab b hS hH hL o t sp w)
  have HBo := hidP (fun (h : o.size ≤ 1048576) => put_both k s q n aS aH aL ab b hS hH hL o t sp ⟨h6.1, h6.2.1, h6.2.2.1, h6.2.2.2.1, h6.2.2.2.2.1, h6.2.2.2.2.2, h⟩ bH bL h)
  have HT := hidP ht
  clear h6 bH bL ho ht
  have HU := hidP ((Below.refl y.heap.size y).alloc (Nat.le_refl _) (.cells #[.int .i64 k, .int .i64 s, .int .i64 q, .int .i64 n, .bool aS, .int .i64 aH.toInt, .int .i64 aL.toInt, .int .i64 ab, .int .i64 b, .bool hS, .int .i64 hH, .int .i64 hL, .string o, .int .i64 t, .int .i64 sp] 27))
  have HX0 := hidP (Bx.new y [.int .i64 k, .int .i64 s, .int .i64 q, .int .i64 n, .bool aS, .int .i64 aH.toInt, .int .i64 aL.toInt, .int .i64 ab, .int .i64 b, .bool hS, .int .i64 hH, .int .i64 hL, .string o, .int .i64 t, .int .i64 sp] 27)
  go_enter Tryz.func3, Tryz.ntmps3
  go_wp2_with fail
  refine (HSz.out _).mono ?_
  rintro e w1 ⟨⟨z, hz, rfl⟩, hb1⟩
  have HX1 := hidP (HX0.out.later hb1)
  have acc1 := hidP (HU.out.trans (hb1.mono HU.out.size))
  have HZ := hidP hz
  clear hb1 hz HX0 HU
  by_cases z0 : z < 0
  · go_wp2_with fail
    go_ret
    exact ⟨rfl, acc1.out⟩
  · have d0 : decide (z < 0) = false := decide_eq_false z0
    obtain ⟨Zf, hfl, hS', hI'⟩ := HBo.out (HZ.out (by omega))
    have HSp := hidP hS'
    have HIm := hidP hI'
    clear hS' hI' HBo HZ
    have c0 := HX1.out.cel 0 _ rfl
    have c1 := HX1.out.cel 1 _ rfl
    have c2 := HX1.out.cel 2 _ rfl
    have c3 := HX1.out.cel 3 _ rfl
    have c4 := HX1.out.cel 4 _ rfl
    have c5 := HX1.out.cel 5 _ rfl
    have c6 := HX1.out.cel 6 _ rfl
    have c7 := HX1.out.cel 7 _ rfl
    have c8 := HX1.out.cel 8 _ rfl
    have c9 := HX1.out.cel 9 _ rfl
    have c10 := HX1.out.cel 10 _ rfl
    have c11 := HX1.out.cel 11 _ rfl
    have c12 := HX1.out.cel 12 _ rfl
    have c13 := HX1.out.cel 13 _ rfl
    have c14 := HX1.out.cel 14 _ rfl
    go_wp2_with fail
    refine (HTo.out _).mono ?_
    rintro e w2 ⟨rfl, b2⟩
    have acc2 := hidP (acc1.out.trans (b2.mono acc1.out.size))
    have HX2 := hidP (HX1.out.later b2)
    clear b2 acc1 HX1 
    clear c0 c1 c2 c3 c4 c5 c6 c7 c8 c9 c10 c11 c12 c13 c14
    go_wp2_with fail
    refine (HSp.out _).mono ?_
    rintro e w3 ⟨g1, k1, rfl, ov, b3⟩
    have acc3 := hidP (acc2.out.trans (b3.mono acc2.out.size))
    have HX3 := hidP (HX2.out.later b3)
    have v_3 := hidP ov
    have ac_v := acc2.out.size
    have bl_v : y.heap.size < w2.heap.size := HX2.out.lt
    clear b3 acc2 HX2  ov
    have c0 := HX3.out.cel 0 _ rfl
    have c1 := HX3.out.cel 1 _ rfl
    have c2 := HX3.out.cel 2 _ rfl
    have c3 := HX3.out.cel 3 _ rfl
    have c4 := HX3.out.cel 4 _ rfl
    have c5 := HX3.out.cel 5 _ rfl
    have c6 := HX3.out.cel 6 _ rfl
    have c7 := HX3.out.cel 7 _ rfl
    have c8 := HX3.out.cel 8 _ rfl
    have c9 := HX3.out.cel 9 _ rfl
    have c10 := HX3.out.cel 10 _ rfl
    have c11 := HX3.out.cel 11 _ rfl
    have c12 := HX3.out.cel 12 _ rfl
    have c13 := HX3.out.cel 13 _ rfl
    have c14 := HX3.out.cel 14 _ rfl
    go_wp2_with fail
    refine (HTo.out _).mono ?_
    rintro e w4 ⟨rfl, b4⟩
    have acc4 := hidP (acc3.out.trans (b4.mono acc3.out.size))
    have HX4 := hidP (HX3.out.later b4)
    have v_4 := hidP (v_3.out.later b4)
    clear b4 acc3 HX3 v_3
    clear c0 c1 c2 c3 c4 c5 c6 c7 c8 c9 c10 c11 c12 c13 c14
    go_wp2_with fail
    refine (HIm.out _ (HT.out.below acc4.out)).mono ?_
    rintro e w5 ⟨g2, k2, rfl, og, b5⟩
    have acc5 := hidP (acc4.out.trans (b5.mono acc4.out.size))
    have HX5 := hidP (HX4.out.later b5)
    have v_5 := hidP (v_4.out.later b5)
    have g_5 := hidP og
    have ac_g := acc4.out.size
    have bl_g : y.heap.size < w4.heap.size := HX4.out.lt
    have lt_v_g := hidP (fun k hk => (v_4.out.lt k hk).2)
    clear b5 acc4 HX4 v_4 og
    go_wp2_with fail
    refine (eqByteS_any _ _ _ _ Zf Zf _ g_5.out.bytA v_5.out.bytA (by omega) (by omega)).mono ?_
    rw [eqL_same]
    rintro e w6 ⟨rfl, b6⟩
    have acc6 := hidP (acc5.out.trans (b6.mono acc5.out.size))
    have HX6 := hidP (HX5.out.later b6)
    have v_6 := hidP (v_5.out.later b6)
    have g_6 := hidP (g_5.out.later b6)
    clear b6 acc5 HX5 v_5 g_5
    go_wp2_with fail
    refine (markByteS_any _ _ _ Zf 1 _ g_6.out (by omega) (by omega) (by omega)).mono ?_
    rintro e w7 ⟨rfl, om, gm⟩
    have acc7 := hidP (below_app acc6.out (g_6.out.mono ac_g) acc6.out.size gm)
    have HX7 := hidP (HX6.out.grown gm (fun e => by have h5 := (g_6.out.lt _ e).1; omega))
    have v_7 := hidP (v_6.out.kept gm (fun k h1 h2 => by have q1 := lt_v_g.out k h1; have q2 := (g_6.out.lt k h2).1; omega))
    have g_7 := hidP om
    clear gm om acc6 HX6 v_6 g_6
    go_wp2_with fail
    refine (heldByteS_any _ _ Zf.length 1 _ g_7.out.bytA (by omega) (by omega) (by omega)).mono ?_
    rintro e w8 ⟨rfl, b8⟩
    have acc8 := hidP (acc7.out.trans (b8.mono acc7.out.size))
    have HX8 := hidP (HX7.out.later b8)
    have v_8 := hidP (v_7.out.later b8)
    have g_8 := hidP (g_7.out.later b8)
    clear b8 acc7 HX7 v_7 g_7
    have c0 := HX8.out.cel 0 _ rfl
    have c1 := HX8.out.cel 1 _ rfl
    have c2 := HX8.out.cel 2 _ rfl
    have c3 := HX8.out.cel 3 _ rfl
    have c4 := HX8.out.cel 4 _ rfl
    have c5 := HX8.out.cel 5 _ rfl
    have c6 := HX8.out.cel 6 _ rfl
    have c7 := HX8.out.cel 7 _ rfl
    have c8 := HX8.out.cel 8 _ rfl
    have c9 := HX8.out.cel 9 _ rfl
    have c10 := HX8.out.cel 10 _ rfl
    have c11 := HX8.out.cel 11 _ rfl
    have c12 := HX8.out.cel 12 _ rfl
    have c13 := HX8.out.cel 13 _ rfl
    have c14 := HX8.out.cel 14 _ rfl
    go_wp2_with fail
    refine (HTo.out _).mono ?_
    rintro e w9 ⟨rfl, b9⟩
    have acc9 := hidP (acc8.out.trans (b9.mono acc8.out.size))
    have HX9 := hidP (HX8.out.later b9)
    have v_9 := hidP (v_8.out.later b9)
    have g_9 := hidP (g_8.out.later b9)
    clear b9 acc8 HX8 v_8 g_8
    clear c0 c1 c2 c3 c4 c5 c6 c7 c8 c9 c10 c11 c12 c13 c14
    go_wp2_with fail
    refine (HIm.out _ (HT.out.below acc9.out)).mono ?_
    rintro e w10 ⟨g3, k3, rfl, oh, b10⟩
    have acc10 := hidP (acc9.out.trans (b10.mono acc9.out.size))
    have HX10 := hidP (HX9.out.later b10)
    have v_10 := hidP (v_9.out.later b10)
    have g_10 := hidP (g_9.out.later b10)
    have h_10 := hidP oh
    have ac_h := acc9.out.size
    have bl_h : y.heap.size < w9.heap.size := HX9.out.lt
    have lt_v_h := hidP (fun k hk => (v_9.out.lt k hk).2)
    have lt_g_h := hidP (fun k hk => (g_9.out.lt k hk).2)
    clear b10 acc9 HX9 v_9 g_9 oh
    go_wp2_with fail
    refine (eqByteS_any _ _ _ _ Zf Zf _ h_10.out.bytA v_10.out.bytA (by omega) (by omega)).mono ?_
    rw [eqL_same]
    rintro e w11 ⟨rfl, b11⟩
    have acc11 := hidP (acc10.out.trans (b11.mono acc10.out.size))
    have HX11 := hidP (HX10.out.later b11)
    have v_11 := hidP (v_10.out.later b11)
    have g_11 := hidP (g_10.out.later b11)
    have h_11 := hidP (h_10.out.later b11)
    clear b11 acc10 HX10 v_10 g_10 h_10
    go_wp2_with fail
    refine (heldByteS_any _ _ Zf.length 1 _ g_11.out.bytA (by omega) (by omega) (by omega)).mono ?_
    rintro e w12 ⟨rfl, b12⟩
    have acc12 := hidP (acc11.out.trans (b12.mono acc11.out.size))
    have HX12 := hidP (HX11.out.later b12)
    have v_12 := hidP (v_11.out.later b12)
    have g_12 := hidP (g_11.out.later b12)
    have h_12 := hidP (h_11.out.later b12)
    clear b12 acc11 HX11 v_11 g_11 h_11
    go_wp2_with fail
    go_ret
    exact ⟨rfl, acc12.out⟩

theorem ownT : ownKnob Tryz.prog.godebug = none := by kernel_rfl
theorem g64 : Tryz.prog.globalNamed "math/bits.deBruijn64tab" = some 2 := by kernel_rfl

theorem bigW {W : World} (h : W.ShapedOpen Tryz.prog) : 4 ≤ W.heap.size := by
  obtain ⟨o, _, ho, _⟩ := h.2 4 (of_decide_eq_true (by kernel_rfl)) (of_decide_eq_true (by kernel_rfl))
  have := (Array.getElem?_eq_some_iff.mp ho).1
  omega

/-- What the row's list gives: the tables' cells. -/
theorem tabs {W : World} (h : laidMetH Tryz.prog Rows.fnExactPutCommandRow.laid W) (hO : W.ShapedOpen Tryz.prog) : Tabs W := by
  have h1 := h.filter (fun x => x.1 == "internal/strconv.uint64pow10")
  have h2 := h.filter (fun x => x.1 == "math/bits.deBruijn64tab")
  have e1 : (Rows.fnExactPutCommandRow.laid.filter fun x => x.1 == "internal/strconv.uint64pow10") = [("internal/strconv.uint64pow10", Rows.laid_internal_strconv_uint64pow10)] := by kernel_rfl
  have e2 : (Rows.fnExactPutCommandRow.laid.filter fun x => x.1 == "math/bits.deBruijn64tab") = [("math/bits.deBruijn64tab", Rows.laid_math_bits_deBruijn64tab)] := by kernel_rfl
  rw [e1] at h1
  rw [e2] at h2
  have t1 : Lib.TabIs Tryz.prog W "internal/strconv.uint64pow10" .u64 Lib.pow10Tab :=
    Lib.tabIs_of_head (rest := []) gpow (by kernel_rfl) Tryz.underlying182 Tryz.underlying77 (by kernel_rfl) (by kernel_rfl) h1
  have t2 : Lib.TabIs Tryz.prog W "math/bits.deBruijn64tab" .u8 [0, 1, 56, 2, 57, 49, 28, 3, 61, 58, 42, 50, 38, 29, 17, 4, 62, 47, 59, 36, 45, 43, 51, 22, 53, 39, 33, 30, 24, 18, 12, 5, 63, 55, 48, 27, 60, 41, 37, 16, 46, 35, 44, 21, 52, 32, 23, 11, 54, 26, 40, 15, 34, 20, 31, 10, 25, 14, 19, 9, 13, 8, 7, 6] :=
    Lib.tabIs_of_head (rest := []) g64 (by kernel_rfl) Tryz.underlying192 Tryz.underlying5 (by kernel_rfl) (by kernel_rfl) h2
  have c : W.cell? ⟨2, 15, none⟩ = some (.int .u8 4) := t2.cell g64 15 (by decide)
  exact ⟨t1, c, bigW hO⟩

theorem Tryz.laidOutV : laidOutB Tryz.prog = true := by kernel_rfl
set_option maxRecDepth 100000 in
theorem contractT (H : Type) (enc : TypeId × Value → H) (W : World) (base : Nat) (args : Array Value) (ds gs : List (DataW H)) (before : List MemPlace)
    (hval : ∀ (j : Nat) t v, Tryz.f3.params[j]? = some t → args[j]? = some v → Value.okWide Tryz.prog W .any base t v)
    (hW : DataW.Whole enc Tryz.prog Tryz.f3.params.toList Rows.fnExactPutCommandSpec.vars false W args.toList ds gs before) (hL' : laidMetH Tryz.prog Rows.fnExactPutCommandRow.laid W) (hO : W.ShapedOpen Tryz.prog) :
    Calls Tryz.prog 3 args W fun e W' => ∃ v, e = .returned v ∧ Rows.fnExactPutCommandSpec.post enc Tryz.prog Tryz.f3 false true false false W args v W' := by
  have hW' := hW
  obtain ⟨p, q, hA0, hV, rfl, _, _⟩ := hW
  have hA : DataW.TrodAll enc Tryz.prog W 0 (fun _ => true) true Tryz.f3.params.toList args.toList ds p := hA0
  rw [Tryz.params3] at hA hval
  obtain ⟨v0, d0, rfl, rfl, h0⟩ := trodAll_one hA
  obtain ⟨rfl, rfl⟩ := trodVars_none hV
  obtain ⟨k, s, q', n, aS, aH, aL, ab, b, hS, hH, hL, o, t, sp, rfl, h6, bH, bL, ho⟩ := openCmd (hval 0 27 v0 rfl rfl) h0
  clear hA0
  simp only [List.append_nil] at hW'
  have hlt : ∀ x ∈ p, x.block < W.heap.size := fun x hx => by simpa using hW'.lt x hx
  refine (lawCmd k s q' n aS aH aL ab b hS hH hL o t sp h6 bH bL ho W (tabs hL' hO)).mono fun e W' ⟨he, hb⟩ => ?_
  subst he
  exact ⟨_, rfl, ⟨_, _, _, [], p, [], hW', trodAll_mk1 (shut_bool Tryz.underlying4 true), trodAll_mk1 (Below.trod Tryz.laidOutV (by kernel_rfl) (of_decide_eq_true (by kernel_rfl)) h0 hb hlt), rfl, hb.frame _, fun h => by cases h⟩⟩

/-- A block of cells laid anew. -/
def layAs (cs : Array Value) : Obj → Obj
  | .cells _ t frozen => .cells cs t frozen
  | o => o
/-- A world for the witness: the settled one, the tables holding what their initialisers lay. -/
noncomputable def laidWorld (os : Os) : World :=
  { World.holding Tryz.prog os ⟨#[], #[], []⟩ with heap := (((World.holding Tryz.prog os ⟨#[], #[], []⟩).heap.modify 1 (layAs #[.int .u8 0, .int .u8 1, .int .u8 28, .int .u8 2, .int .u8 29, .int .u8 14, .int .u8 24, .int .u8 3, .int .u8 30, .int .u8 22, .int .u8 20, .int .u8 15, .int .u8 25, .int .u8 17, .int .u8 4, .int .u8 8, .int .u8 31, .int .u8 27, .int .u8 13, .int .u8 23, .int .u8 21, .int .u8 19, .int .u8 16, .int .u8 7, .int .u8 26, .int .u8 12, .int .u8 18, .int .u8 6, .int .u8 11, .int .u8 5, .int .u8 10, .int .u8 9])).modify 2 (layAs #[.int .u8 0, .int .u8 1, .int .u8 56, .int .u8 2, .int .u8 57, .int .u8 49, .int .u8 28, .int .u8 3, .int .u8 61, .int .u8 58, .int .u8 42, .int .u8 50, .int .u8 38, .int .u8 29, .int .u8 17, .int .u8 4, .int .u8 62, .int .u8 47, .int .u8 59, .int .u8 36, .int .u8 45, .int .u8 43, .int .u8 51, .int .u8 22, .int .u8 53, .int .u8 39, .int .u8 33, .int .u8 30, .int .u8 24, .int .u8 18, .int .u8 12, .int .u8 5, .int .u8 63, .int .u8 55, .int .u8 48, .int .u8 27, .int .u8 60, .int .u8 41, .int .u8 37, .int .u8 16, .int .u8 46, .int .u8 35, .int .u8 44, .int .u8 21, .int .u8 52, .int .u8 32, .int .u8 23, .int .u8 11, .int .u8 54, .int .u8 26, .int .u8 40, .int .u8 15, .int .u8 34, .int .u8 20, .int .u8 31, .int .u8 10, .int .u8 25, .int .u8 14, .int .u8 19, .int .u8 9, .int .u8 13, .int .u8 8, .int .u8 7, .int .u8 6])).modify 0 (layAs #[.int .u64 1, .int .u64 10, .int .u64 100, .int .u64 1000, .int .u64 10000, .int .u64 100000, .int .u64 1000000, .int .u64 10000000, .int .u64 100000000, .int .u64 1000000000, .int .u64 10000000000, .int .u64 100000000000, .int .u64 1000000000000, .int .u64 10000000000000, .int .u64 100000000000000, .int .u64 1000000000000000, .int .u64 10000000000000000, .int .u64 100000000000000000, .int .u64 1000000000000000000, .int .u64 10000000000000000000]) }
theorem laid_met (os : Os) : laidMet Tryz.prog Rows.fnExactPutCommandRow.laid ((laidWorld os).forCall (fun _ _ => 0) ⟨#[], #[.agg #[.int .i64 0, .int .i64 0, .int .i64 0, .int .i64 0, .bool false, .int .i64 0, .int .i64 0, .int .i64 0, .int .i64 0, .bool false, .int .i64 0, .int .i64 0, .string ⟨#[]⟩, .int .i64 0, .int .i64 0]], []⟩).memory :=
  laidMet_of_run' 8 (by kernel_rfl) (by kernel_rfl)
theorem reads (os : Os) {H : Type} (enc : TypeId × Value → H) : ∃ places, DataW.whole enc Tryz.prog ((laidWorld os).forCall (fun _ _ => 0) ⟨#[], #[.agg #[.int .i64 0, .int .i64 0, .int .i64 0, .int .i64 0, .bool false, .int .i64 0, .int .i64 0, .int .i64 0, .int .i64 0, .bool false, .int .i64 0, .int .i64 0, .string ⟨#[]⟩, .int .i64 0, .int .i64 0]], []⟩).memory Tryz.f3.params.toList Rows.fnExactPutCommandSpec.vars false (#[.agg #[.int .i64 0, .int .i64 0, .int .i64 0, .int .i64 0, .bool false, .int .i64 0, .int .i64 0, .int .i64 0, .int .i64 0, .bool false, .int .i64 0, .int .i64 0, .string ⟨#[]⟩, .int .i64 0, .int .i64 0]] : Array Value).toList 8 = some ([.agg [.lit (.int .i64 0), .lit (.int .i64 0), .lit (.int .i64 0), .lit (.int .i64 0), .agg [.agg [.lit (.bool false), .lit (.int .i64 0), .lit (.int .i64 0)], .lit (.int .i64 0)], .lit (.int .i64 0), .agg [.lit (.bool false), .lit (.int .i64 0), .lit (.int .i64 0)], .lit (.string []), .lit (.int .i64 0), .lit (.int .i64 0)]], [], places) :=
  ⟨[], by kernel_rfl⟩

set_option maxRecDepth 100000 in
theorem liftedT (os : Os) (started : os.Started) (H : Type) (enc : TypeId × Value → H) (F : Stop.Interp) :
    ReturnsInHanded {} Tryz.checked os 3 .any ((OpenSpec.ofChange Rows.fnExactPutCommandSpec).preRow enc Tryz.prog Tryz.f3 Rows.fnExactPutCommandRow.domain false Rows.fnExactPutCommandRow.laid) (((OpenSpec.ofChange Rows.fnExactPutCommandSpec).at F).post enc Tryz.prog Tryz.f3 false true false false) := by
  obtain ⟨places, hx⟩ := reads os enc
  refine returnsInHanded_of_row (C := Tryz.checked) (s := OpenSpec.ofChange Rows.fnExactPutCommandSpec) ownT started (by kernel_rfl) Tryz.func3
    (witness_row_at (enc := enc) (C := Tryz.checked) false (laidWorld os) #[.agg #[.int .i64 0, .int .i64 0, .int .i64 0, .int .i64 0, .bool false, .int .i64 0, .int .i64 0, .int .i64 0, .int .i64 0, .bool false, .int .i64 0, .int .i64 0, .string ⟨#[]⟩, .int .i64 0, .int .i64 0]] rfl (by kernel_rfl) (by kernel_rfl) (by kernel_rfl)
      (OpenSpec.preRow_of_cond 8 hx (by kernel_rfl) (fun k hk => by cases hk) (by kernel_rfl) (laid_met os))) ?_
  intro W base args ds gs before hval hW _ _ _ hL hO _
  exact contractT H enc W base args ds gs before hval hW hL hO

theorem saidT : Rows.FnExactPutCommandSaid :=
  OpenClaim.holds_of_cond 3 Tryz.f3 rfl rfl rfl rfl rfl rfl rfl ⟨rfl, rfl, rfl, rfl, rfl⟩ rfl rfl rfl rfl rfl (by kernel_rfl) Tryz.func3 (by kernel_rfl)
    (of_decide_eq_true (by kernel_rfl)) (by unfold Func.isWrapper; rw [if_neg (of_decide_eq_false (by kernel_rfl))]; exact ⟨rfl, rfl⟩)
    (fun os started H enc _ F => by rw [OpenClaim.pre_eq_preRow]; exact liftedT os started H enc F)

theorem plainT (f : FuncId) (fn : Func) (hf : Tryz.pinned.checked.prog.funcNamed "loop.example/g00113/laws.FnExactPutCommand" = some f) (hfn : Tryz.pinned.checked.prog.funcs[f]? = some fn) :
    true = Tryz.pinned.checked.prog.looks [] ∧ ∀ (j : Nat) t, fn.params[j]? = some t → Tryz.pinned.checked.prog.wantsStandIn t = false := by
  obtain rfl : f = 3 := Option.some.inj ((show Tryz.prog.funcNamed "loop.example/g00113/laws.FnExactPutCommand" = some 3 by kernel_rfl).symm.trans hf) |>.symm
  obtain rfl : fn = Tryz.f3 := (Option.some.inj (Tryz.func3.symm.trans hfn)).symm
  refine ⟨by kernel_rfl, fun j t ht => ?_⟩
  rw [Tryz.params3] at ht
  obtain rfl : t = 27 := by simpa using Array.mem_of_getElem? ht
  exact (show Tryz.prog.wantsStandIn 27 = false by kernel_rfl)

theorem putCommand_card : Rows.FnExactPutCommandCardSaid :=
  Claim7.holds_tied_plain_at .later [] _ _ _ _ saidT (fun _ h => by cases h) (by kernel_rfl) (fun _ h => by cases h) fnExactPutCommand_row_tie rfl ⟨rfl, rfl⟩ (by kernel_rfl) rfl plainT (by kernel_rfl)

end Go.Proofs.YthjpapninnbdkaaGreatDoor
