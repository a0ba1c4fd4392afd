/-
  fieldsOf by kind: the fields stand in the text's order. The row is new, nothing old turns.
-/
import Derived.Test.YtnchndcanhmbeaaGreatDoorGCmI
namespace Go.Proofs.YtnchndcanhmbeaaGreatDoor
open Go.RowKit

set_option maxRecDepth 10000 in
set_option maxHeartbeats 4000000 in
theorem fo_1 (s q n : Int) (aS : Bool) (aH aL : BitVec 64) (ab b : Int) (hS : Bool) (hH hL : Int) (o : ByteArray) (t sp : Int) (TA TH : List UInt8) (HI : Hid (CmI s q n b t sp o)) (_ : Hid (TA.length ≤ 200 ∧ ∀ w : World, Tabs w → Calls Tryz.prog 84 #[.agg #[.bool aS, .int .i64 aH.toInt, .int .i64 aL.toInt, .int .i64 ab]] w fun e w' => e = .returned (.string ⟨TA.toArray⟩) ∧ Below w.heap.size w w')) (_ : Hid (TH.length ≤ 200 ∧ ∀ w : World, Tabs w → Calls Tryz.prog 87 #[.agg #[.bool hS, .int .i64 hH, .int .i64 hL]] w fun e w' => e = .returned (.string ⟨TH.toArray⟩) ∧ Below w.heap.size w w')) (y : World) (ht : Tabs y) :
    Calls Tryz.prog 61 #[.iface 114 (.agg #[.int .i64 n])] y fun e w' => ∃ a c, e = .returned (.slice a 1 c) ∧ OwnG KF 106 w' y.heap.size (.slice a 1 c) [((fT ⟨#[110, 111, 119]⟩ n), (rB 0 n 1000000000))] ∧ Below y.heap.size y w' := by
  have HT := hidP ht
  clear ht
  have a1 : ∀ w : World, (Instr.typeAssert (.iface 114 (.agg #[.int .i64 n])) 80 114 true).run Tryz.prog w = .ok (.tuple #[.agg #[.int .i64 n], .bool true]) w := fun _ => by kernel_rfl
  have CN := hidP (fun w (h : Tabs w) => nowField_any n HI.out.n w h)
  generalize fT ⟨#[110, 111, 119]⟩ n = TN at *
  generalize rB 0 n 1000000000 = rN at *
  clear HI
  go_enter Tryz.func61, Tryz.ntmps61
  go_wp2_with fail
  have u0 : (y.alloc (.cells #[.int .i64 n] 114)).cell? ⟨y.heap.size, 0, none⟩ = some (.int .i64 n) := by simp [go_sem]
  have uL : y.heap.size < (y.alloc (.cells #[.int .i64 n] 114)).heap.size := by simp
  have HU := hidP ((Below.refl y.heap.size y).alloc (Nat.le_refl _) (.cells #[.int .i64 n] 114))
  generalize y.alloc (.cells #[.int .i64 n] 114) = W1 at *
  have hU := HU.out.size
  refine (CN.out _ (HT.out.below HU.out)).mono ?_
  rintro e w2 ⟨rfl, hb2⟩
  have h2 := hb2.size
  have HB2 := hidP (HU.out.trans (hb2.mono hU))
  have HO := hidP (own_manyG KF w2 y.heap.size 106 [(TN, rN)] #[.string TN, .bool rN] rfl 1 rfl (by omega) (by omega))
  go_wp2_with fail
  go_ret
  exact ⟨_, _, rfl, HO.out, HB2.out.alloc (by omega) _⟩

set_option maxRecDepth 10000 in
set_option maxHeartbeats 4000000 in
theorem fo_2 (s q n : Int) (aS : Bool) (aH aL : BitVec 64) (ab b : Int) (hS : Bool) (hH hL : Int) (o : ByteArray) (t sp : Int) (TA TH : List UInt8) (HI : Hid (CmI s q n b t sp o)) (_ : Hid (TA.length ≤ 200 ∧ ∀ w : World, Tabs w → Calls Tryz.prog 84 #[.agg #[.bool aS, .int .i64 aH.toInt, .int .i64 aL.toInt, .int .i64 ab]] w fun e w' => e = .returned (.string ⟨TA.toArray⟩) ∧ Below w.heap.size w w')) (_ : Hid (TH.length ≤ 200 ∧ ∀ w : World, Tabs w → Calls Tryz.prog 87 #[.agg #[.bool hS, .int .i64 hH, .int .i64 hL]] w fun e w' => e = .returned (.string ⟨TH.toArray⟩) ∧ Below w.heap.size w w')) (y : World) (ht : Tabs y) :
    Calls Tryz.prog 61 #[.iface 116 (.agg #[.int .i64 s, .int .i64 n])] y fun e w' => ∃ a c, e = .returned (.slice a 2 c) ∧ OwnG KF 106 w' y.heap.size (.slice a 2 c) [((fT ⟨#[115, 101, 115, 115, 105, 111, 110]⟩ s), (rB 1 s 1000000)), ((fT ⟨#[110, 111, 119]⟩ n), (rB 0 n 1000000000))] ∧ Below y.heap.size y w' := by
  have HT := hidP ht
  clear ht
  have a1 : ∀ w : World, (Instr.typeAssert (.iface 116 (.agg #[.int .i64 s, .int .i64 n])) 80 114 true).run Tryz.prog w = .ok (.tuple #[.agg #[.int .i64 0], .bool false]) w := fun _ => by kernel_rfl
  have a2 : ∀ w : World, (Instr.typeAssert (.iface 116 (.agg #[.int .i64 s, .int .i64 n])) 80 116 true).run Tryz.prog w = .ok (.tuple #[.agg #[.int .i64 s, .int .i64 n], .bool true]) w := fun _ => by kernel_rfl
  have CS := hidP (fun w (h : Tabs w) => sessionField_any s HI.out.s w h)
  have CN := hidP (fun w (h : Tabs w) => nowField_any n HI.out.n w h)
  generalize fT ⟨#[115, 101, 115, 115, 105, 111, 110]⟩ s = TS at *
  generalize rB 1 s 1000000 = rS at *
  generalize fT ⟨#[110, 111, 119]⟩ n = TN at *
  generalize rB 0 n 1000000000 = rN at *
  clear HI
  go_enter Tryz.func61, Tryz.ntmps61
  go_wp2_with fail
  have u0 : (y.alloc (.cells #[.int .i64 s, .int .i64 n] 116)).cell? ⟨y.heap.size, 0, none⟩ = some (.int .i64 s) := by simp [go_sem]
  have u1 : (y.alloc (.cells #[.int .i64 s, .int .i64 n] 116)).cell? ⟨y.heap.size, 1, none⟩ = some (.int .i64 n) := by simp [go_sem]
  have uL : y.heap.size < (y.alloc (.cells #[.int .i64 s, .int .i64 n] 116)).heap.size := by simp
  have HU := hidP ((Below.refl y.heap.size y).alloc (Nat.le_refl _) (.cells #[.int .i64 s, .int .i64 n] 116))
  generalize y.alloc (.cells #[.int .i64 s, .int .i64 n] 116) = W1 at *
  have hU := HU.out.size
  have HSx : Hid (∀ x, Below W1.heap.size W1 x → (x.cell? ⟨y.heap.size, 0, none⟩ = some (.int .i64 s) ∧ x.cell? ⟨y.heap.size, 1, none⟩ = some (.int .i64 n) ∧ Below W1.heap.size W1 x)) := hidP fun x h =>
    ⟨(h.cell uL).trans u0, (h.cell uL).trans u1, h⟩
  refine wp_region_held_drew (S := (fun x => x.cell? ⟨y.heap.size, 0, none⟩ = some (.int .i64 s) ∧ x.cell? ⟨y.heap.size, 1, none⟩ = some (.int .i64 n) ∧ Below W1.heap.size W1 x)) (by kernel_rfl) ?_ (fun hHeld => ?_)
  · try dsimp only
    exact HSx.out _ ((Below.refl _ _).drew)
  refine wpAnyH_take (i := 0) (oi := ⟨some 25, _, _, _, _, _⟩) (v := ?_) rfl (by kernel_rfl) (by kernel_rfl) (by kernel_rfl) (fun _ _ _ h => h) (Or.inl ⟨by rfl, ?_⟩) (by assumption) ?_
  rotate_left
  · intro w hSw
    try dsimp only at hSw
    go_simp
    try with_reducible rfl
  simp only [Act.put, List.setIfInBounds_toArray, List.set_cons_zero, List.set_cons_succ]
  refine wpAnyH_take (i := 1) (oi := ⟨some 26, _, _, _, _, _⟩) (v := ?_) rfl (by kernel_rfl) (by kernel_rfl) (by kernel_rfl) (fun _ _ _ h => h) (Or.inl ⟨by rfl, ?_⟩) (by assumption) ?_
  rotate_left
  · intro w hSw
    try dsimp only at hSw
    go_simp
    try with_reducible rfl
  simp only [Act.put, List.setIfInBounds_toArray, List.set_cons_zero, List.set_cons_succ]
  refine wpAnyH_take (i := 3) (oi := ⟨some 28, _, _, _, _, _⟩) (v := ?_) rfl (by kernel_rfl) (by kernel_rfl) (by kernel_rfl) (fun _ _ _ h => h) (Or.inl ⟨by rfl, ?_⟩) (by assumption) ?_
  rotate_left
  · intro w hSw
    try dsimp only at hSw
    go_simp
    try with_reducible rfl
  simp only [Act.put, List.setIfInBounds_toArray, List.set_cons_zero, List.set_cons_succ]
  refine wpAnyH_take (i := 4) (oi := ⟨some 29, _, _, _, _, _⟩) (v := ?_) rfl (by kernel_rfl) (by kernel_rfl) (by kernel_rfl) (fun _ _ _ h => h) (Or.inl ⟨by rfl, ?_⟩) (by assumption) ?_
  rotate_left
  · intro w hSw
    try dsimp only at hSw
    go_simp
    try with_reducible rfl
  simp only [Act.put, List.setIfInBounds_toArray, List.set_cons_zero, List.set_cons_succ]
  refine wpAnyH_ready (rs := [2]) (by kernel_rfl) (by simp) ?_
  refine AllReadyH.cons rfl (fun K hK => ?_) AllReadyH.nil
  go_simp
  go_wp2_with (first | (go_at_call 74; refine (CS.out _ (HT.out.below (HU.out.trans ((hHeld.2.2).mono hU)))).mono ?_; rintro e w2 ⟨rfl, hb2⟩; have b2 := (hHeld.2.2).trans (hb2.mono (hHeld.2.2).size)))
  refine hK.out _ _ ?_ (fun hHeld => ?_)
  · try dsimp only
    exact HSx.out _ b2
  clear hK K
  refine wpAnyH_ready (rs := [5]) (by kernel_rfl) (by simp) ?_
  refine AllReadyH.cons rfl (fun K hK => ?_) AllReadyH.nil
  go_simp
  go_wp2_with (first | (go_at_call 73; refine (CN.out _ (HT.out.below (HU.out.trans ((hHeld.2.2).mono hU)))).mono ?_; rintro e w3 ⟨rfl, hb3⟩; have b3 := (hHeld.2.2).trans (hb3.mono (hHeld.2.2).size)))
  refine hK.out _ _ ?_ (fun hHeld => ?_)
  · try dsimp only
    exact HSx.out _ b3
  clear hK K
  refine wpAnyH_ready (rs := [6]) (by kernel_rfl) (by simp) ?_
  refine AllReadyH.cons rfl (fun K hK => ?_) AllReadyH.nil
  go_simp
  have bA := (hHeld.2.2).alloc (hHeld.2.2).size (.cells #[.string TS, .bool rS, .string TN, .bool rN] 106)
  refine hK.out _ _ ?_ (fun hHeld => ?_)
  · try dsimp only
    exact HSx.out _ bA
  clear hK K
  refine wpAnyH_take (i := 7) (oi := ⟨some 2, _, _, _, _, _⟩) (v := ?_) rfl (by kernel_rfl) (by kernel_rfl) (by kernel_rfl) (fun _ _ _ h => h) (Or.inl ⟨by rfl, ?_⟩) (by assumption) ?_
  rotate_left
  · intro w hSw
    try dsimp only at hSw
    go_simp
    try with_reducible rfl
  simp only [Act.put, List.setIfInBounds_toArray]
  have HE := hidP (hHeld.2.2)
  refine wpAnyH_done (by kernel_rfl) ?_ _
  clear hHeld
  have hA := b3.size
  have HO := hidP (own_manyG KF w3 y.heap.size 106 [(TS, rS), (TN, rN)] #[.string TS, .bool rS, .string TN, .bool rN] rfl 2 rfl (by omega) (by omega))
  go_wp2_with fail
  go_ret
  exact ⟨_, _, rfl, HO.out, HU.out.trans (HE.out.mono hU)⟩

set_option maxRecDepth 10000 in
set_option maxHeartbeats 4000000 in
theorem fo_3 (s q n : Int) (aS : Bool) (aH aL : BitVec 64) (ab b : Int) (hS : Bool) (hH hL : Int) (o : ByteArray) (t sp : Int) (TA TH : List UInt8) (HI : Hid (CmI s q n b t sp o)) (HTA : Hid (TA.length ≤ 200 ∧ ∀ w : World, Tabs w → Calls Tryz.prog 84 #[.agg #[.bool aS, .int .i64 aH.toInt, .int .i64 aL.toInt, .int .i64 ab]] w fun e w' => e = .returned (.string ⟨TA.toArray⟩) ∧ Below w.heap.size w w')) (_ : Hid (TH.length ≤ 200 ∧ ∀ w : World, Tabs w → Calls Tryz.prog 87 #[.agg #[.bool hS, .int .i64 hH, .int .i64 hL]] w fun e w' => e = .returned (.string ⟨TH.toArray⟩) ∧ Below w.heap.size w w')) (y : World) (ht : Tabs y) :
    Calls Tryz.prog 61 #[.iface 123 (.agg #[.int .i64 s, .int .i64 q, .int .i64 n, .bool aS, .int .i64 aH.toInt, .int .i64 aL.toInt, .int .i64 ab, .int .i64 b])] y fun e w' => ∃ a c, e = .returned (.slice a 5 c) ∧ OwnG KF 106 w' y.heap.size (.slice a 5 c) [((fT ⟨#[115, 101, 115, 115, 105, 111, 110]⟩ s), (rB 1 s 1000000)), ((fT ⟨#[115, 101, 113]⟩ q), (rB 1 q 1000000)), ((fT ⟨#[110, 111, 119]⟩ n), (rB 0 n 1000000000)), ((aT TA), (pokB aS aH aL ab)), ((fT ⟨#[98, 105, 116, 115]⟩ b), (rB 0 b 128))] ∧ Below y.heap.size y w' := by
  have HT := hidP ht
  clear ht
  have a1 : ∀ w : World, (Instr.typeAssert (.iface 123 (.agg #[.int .i64 s, .int .i64 q, .int .i64 n, .bool aS, .int .i64 aH.toInt, .int .i64 aL.toInt, .int .i64 ab, .int .i64 b])) 80 114 true).run Tryz.prog w = .ok (.tuple #[.agg #[.int .i64 0], .bool false]) w := fun _ => by kernel_rfl
  have a2 : ∀ w : World, (Instr.typeAssert (.iface 123 (.agg #[.int .i64 s, .int .i64 q, .int .i64 n, .bool aS, .int .i64 aH.toInt, .int .i64 aL.toInt, .int .i64 ab, .int .i64 b])) 80 116 true).run Tryz.prog w = .ok (.tuple #[.agg #[.int .i64 0, .int .i64 0], .bool false]) w := fun _ => by kernel_rfl
  have a3 : ∀ w : World, (Instr.typeAssert (.iface 123 (.agg #[.int .i64 s, .int .i64 q, .int .i64 n, .bool aS, .int .i64 aH.toInt, .int .i64 aL.toInt, .int .i64 ab, .int .i64 b])) 80 123 true).run Tryz.prog w = .ok (.tuple #[.agg #[.int .i64 s, .int .i64 q, .int .i64 n, .bool aS, .int .i64 aH.toInt, .int .i64 aL.toInt, .int .i64 ab, .int .i64 b], .bool true]) w := fun _ => by kernel_rfl
  have CS := hidP (fun w (h : Tabs w) => sessionField_any s HI.out.s w h)
  have CQ := hidP (fun w (h : Tabs w) => seqField_any q HI.out.q w h)
  have CN := hidP (fun w (h : Tabs w) => nowField_any n HI.out.n w h)
  have CA := hidP (fun w (h : Tabs w) => atField_any aS aH aL ab TA HTA.out.1 HTA.out.2 w h)
  have CB := hidP (fun w (h : Tabs w) => bitsField_any b HI.out.b w h)
  have CW := hidP (fun g m bs w h e1 e2 e3 => with_any s q n HI.out.s HI.out.q HI.out.n g m bs w h e1 e2 e3)
  generalize fT ⟨#[115, 101, 115, 115, 105, 111, 110]⟩ s = TS at *
  generalize rB 1 s 1000000 = rS at *
  generalize fT ⟨#[115, 101, 113]⟩ q = TQ at *
  generalize rB 1 q 1000000 = rQ at *
  generalize fT ⟨#[110, 111, 119]⟩ n = TN at *
  generalize rB 0 n 1000000000 = rN at *
  generalize aT TA = TA at *
  generalize pokB aS aH aL ab = rA at *
  generalize fT ⟨#[98, 105, 116, 115]⟩ b = TB at *
  generalize rB 0 b 128 = rB at *
  clear HI HTA
  go_enter Tryz.func61, Tryz.ntmps61
  go_wp2_with fail
  have u0 : (y.alloc (.cells #[.int .i64 s, .int .i64 q, .int .i64 n, .bool aS, .int .i64 aH.toInt, .int .i64 aL.toInt, .int .i64 ab, .int .i64 b] 123)).cell? ⟨y.heap.size, 0, none⟩ = some (.int .i64 s) := by simp [go_sem]
  have u1 : (y.alloc (.cells #[.int .i64 s, .int .i64 q, .int .i64 n, .bool aS, .int .i64 aH.toInt, .int .i64 aL.toInt, .int .i64 ab, .int .i64 b] 123)).cell? ⟨y.heap.size, 1, none⟩ = some (.int .i64 q) := by simp [go_sem]
  have u2 : (y.alloc (.cells #[.int .i64 s, .int .i64 q, .int .i64 n, .bool aS, .int .i64 aH.toInt, .int .i64 aL.toInt, .int .i64 ab, .int .i64 b] 123)).cell? ⟨y.heap.size, 2, none⟩ = some (.int .i64 n) := by simp [go_sem]
  have u3 : (y.alloc (.cells #[.int .i64 s, .int .i64 q, .int .i64 n, .bool aS, .int .i64 aH.toInt, .int .i64 aL.toInt, .int .i64 ab, .int .i64 b] 123)).cell? ⟨y.heap.size, 3, none⟩ = some (.bool aS) := by simp [go_sem]
  have u4 : (y.alloc (.cells #[.int .i64 s, .int .i64 q, .int .i64 n, .bool aS, .int .i64 aH.toInt, .int .i64 aL.toInt, .int .i64 ab, .int .i64 b] 123)).cell? ⟨y.heap.size, 4, none⟩ = some (.int .i64 aH.toInt) := by simp [go_sem]
  have u5 : (y.alloc (.cells #[.int .i64 s, .int .i64 q, .int .i64 n, .bool aS, .int .i64 aH.toInt, .int .i64 aL.toInt, .int .i64 ab, .int .i64 b] 123)).cell? ⟨y.heap.size, 5, none⟩ = some (.int .i64 aL.toInt) := by simp [go_sem]
  have u6 : (y.alloc (.cells #[.int .i64 s, .int .i64 q, .int .i64 n, .bool aS, .int .i64 aH.toInt, .int .i64 aL.toInt, .int .i64 ab, .int .i64 b] 123)).cell? ⟨y.heap.size, 6, none⟩ = some (.int .i64 ab) := by simp [go_sem]
  have u7 : (y.alloc (.cells #[.int .i64 s, .int .i64 q, .int .i64 n, .bool aS, .int .i64 aH.toInt, .int .i64 aL.toInt, .int .i64 ab, .int .i64 b] 123)).cell? ⟨y.heap.size, 7, none⟩ = some (.int .i64 b) := by simp [go_sem]
  have uL : y.heap.size < (y.alloc (.cells #[.int .i64 s, .int .i64 q, .int .i64 n, .bool aS, .int .i64 aH.toInt, .int .i64 aL.toInt, .int .i64 ab, .int .i64 b] 123)).heap.size := by simp
  have HU := hidP ((Below.refl y.heap.size y).alloc (Nat.le_refl _) (.cells #[.int .i64 s, .int .i64 q, .int .i64 n, .bool aS, .int .i64 aH.toInt, .int .i64 aL.toInt, .int .i64 ab, .int .i64 b] 123))
  generalize y.alloc (.cells #[.int .i64 s, .int .i64 q, .int .i64 n, .bool aS, .int .i64 aH.toInt, .int .i64 aL.toInt, .int .i64 ab, .int .i64 b] 123) = W1 at *
  have hU := HU.out.size
  have HSx : Hid (∀ x, Below W1.heap.size W1 x → (x.cell? ⟨y.heap.size, 0, none⟩ = some (.int .i64 s) ∧ x.cell? ⟨y.heap.size, 1, none⟩ = some (.int .i64 q) ∧ x.cell? ⟨y.heap.size, 2, none⟩ = some (.int .i64 n) ∧ x.cell? ⟨y.heap.size, 3, none⟩ = some (.bool aS) ∧ x.cell? ⟨y.heap.size, 4, none⟩ = some (.int .i64 aH.toInt) ∧ x.cell? ⟨y.heap.size, 5, none⟩ = some (.int .i64 aL.toInt) ∧ x.cell? ⟨y.heap.size, 6, none⟩ = some (.int .i64 ab) ∧ x.cell? ⟨y.heap.size, 7, none⟩ = some (.int .i64 b) ∧ Below W1.heap.size W1 x)) := hidP fun x h =>
    ⟨(h.cell uL).trans u0, (h.cell uL).trans u1, (h.cell uL).trans u2, (h.cell uL).trans u3, (h.cell uL).trans u4, (h.cell uL).trans u5, (h.cell uL).trans u6, (h.cell uL).trans u7, h⟩
  refine wp_region_held_drew (S := (fun x => x.cell? ⟨y.heap.size, 0, none⟩ = some (.int .i64 s) ∧ x.cell? ⟨y.heap.size, 1, none⟩ = some (.int .i64 q) ∧ x.cell? ⟨y.heap.size, 2, none⟩ = some (.int .i64 n) ∧ x.cell? ⟨y.heap.size, 3, none⟩ = some (.bool aS) ∧ x.cell? ⟨y.heap.size, 4, none⟩ = some (.int .i64 aH.toInt) ∧ x.cell? ⟨y.heap.size, 5, none⟩ = some (.int .i64 aL.toInt) ∧ x.cell? ⟨y.heap.size, 6, none⟩ = some (.int .i64 ab) ∧ x.cell? ⟨y.heap.size, 7, none⟩ = some (.int .i64 b) ∧ Below W1.heap.size W1 x)) (by kernel_rfl) ?_ (fun hHeld => ?_)
  · try dsimp only
    exact HSx.out _ ((Below.refl _ _).drew)
  refine wpAnyH_take (i := 0) (oi := ⟨some 35, _, _, _, _, _⟩) (v := ?_) rfl (by kernel_rfl) (by kernel_rfl) (by kernel_rfl) (fun _ _ _ h => h) (Or.inl ⟨by rfl, ?_⟩) (by assumption) ?_
  rotate_left
  · intro w hSw
    try dsimp only at hSw
    go_simp
    try with_reducible rfl
  simp only [Act.put, List.setIfInBounds_toArray, List.set_cons_zero, List.set_cons_succ]
  refine wpAnyH_take (i := 1) (oi := ⟨some 36, _, _, _, _, _⟩) (v := ?_) rfl (by kernel_rfl) (by kernel_rfl) (by kernel_rfl) (fun _ _ _ h => h) (Or.inl ⟨by rfl, ?_⟩) (by assumption) ?_
  rotate_left
  · intro w hSw
    try dsimp only at hSw
    go_simp
    try with_reducible rfl
  simp only [Act.put, List.setIfInBounds_toArray, List.set_cons_zero, List.set_cons_succ]
  refine wpAnyH_take (i := 2) (oi := ⟨some 37, _, _, _, _, _⟩) (v := ?_) rfl (by kernel_rfl) (by kernel_rfl) (by kernel_rfl) (fun _ _ _ h => h) (Or.inl ⟨by rfl, ?_⟩) (by assumption) ?_
  rotate_left
  · intro w hSw
    try dsimp only at hSw
    go_simp
    try with_reducible rfl
  simp only [Act.put, List.setIfInBounds_toArray, List.set_cons_zero, List.set_cons_succ]
  refine wpAnyH_take (i := 3) (oi := ⟨some 38, _, _, _, _, _⟩) (v := ?_) rfl (by kernel_rfl) (by kernel_rfl) (by kernel_rfl) (fun _ _ _ h => h) (Or.inl ⟨by rfl, ?_⟩) (by assumption) ?_
  rotate_left
  · intro w hSw
    try dsimp only at hSw
    go_simp
    try with_reducible rfl
  simp only [Act.put, List.setIfInBounds_toArray, List.set_cons_zero, List.set_cons_succ]
  refine wpAnyH_take (i := 5) (oi := ⟨some 40, _, _, _, _, _⟩) (v := ?_) rfl (by kernel_rfl) (by kernel_rfl) (by kernel_rfl) (fun _ _ _ h => h) (Or.inl ⟨by rfl, ?_⟩) (by assumption) ?_
  rotate_left
  · intro w hSw
    try dsimp only at hSw
    go_simp
    try with_reducible rfl
  simp only [Act.put, List.setIfInBounds_toArray, List.set_cons_zero, List.set_cons_succ]
  refine wpAnyH_take (i := 6) (oi := ⟨some 41, _, _, _, _, _⟩) (v := ?_) rfl (by kernel_rfl) (by kernel_rfl) (by kernel_rfl) (fun _ _ _ h => h) (Or.inl ⟨by rfl, ?_⟩) (by assumption) ?_
  rotate_left
  · intro w hSw
    try dsimp only at hSw
    go_simp
    try with_reducible rfl
  simp only [Act.put, List.setIfInBounds_toArray, List.set_cons_zero, List.set_cons_succ]
  refine wpAnyH_ready (rs := [4]) (by kernel_rfl) (by simp) ?_
  refine AllReadyH.cons rfl (fun K hK => ?_) AllReadyH.nil
  go_simp
  go_wp2_with (first | (go_at_call 76; refine (CA.out _ (HT.out.below (HU.out.trans ((hHeld.2.2.2.2.2.2.2.2).mono hU)))).mono ?_; rintro e w2 ⟨rfl, hb2⟩; have b2 := (hHeld.2.2.2.2.2.2.2.2).trans (hb2.mono (hHeld.2.2.2.2.2.2.2.2).size)))
  refine hK.out _ _ ?_ (fun hHeld => ?_)
  · try dsimp only
    exact HSx.out _ b2
  clear hK K
  refine wpAnyH_ready (rs := [7]) (by kernel_rfl) (by simp) ?_
  refine AllReadyH.cons rfl (fun K hK => ?_) AllReadyH.nil
  go_simp
  go_wp2_with (first | (go_at_call 77; refine (CB.out _ (HT.out.below (HU.out.trans ((hHeld.2.2.2.2.2.2.2.2).mono hU)))).mono ?_; rintro e w3 ⟨rfl, hb3⟩; have b3 := (hHeld.2.2.2.2.2.2.2.2).trans (hb3.mono (hHeld.2.2.2.2.2.2.2.2).size)))
  refine hK.out _ _ ?_ (fun hHeld => ?_)
  · try dsimp only
    exact HSx.out _ b3
  clear hK K
  refine wpAnyH_ready (rs := [8]) (by kernel_rfl) (by simp) ?_
  refine AllReadyH.cons rfl (fun K hK => ?_) AllReadyH.nil
  go_simp
  have bA := (hHeld.2.2.2.2.2.2.2.2).alloc (hHeld.2.2.2.2.2.2.2.2).size (.cells #[.string TA, .bool rA, .string TB, .bool rB] 106)
  refine hK.out _ _ ?_ (fun hHeld => ?_)
  · try dsimp only
    exact HSx.out _ bA
  clear hK K
  refine wpAnyH_ready (rs := [9]) (by kernel_rfl) (by simp) ?_
  refine AllReadyH.cons rfl (fun K hK => ?_) AllReadyH.nil
  go_simp
  go_wp2_with (first | (go_at_call 75; refine (CW.out w3.heap.size 2 [(TA, rA), (TB, rB)] _ (HT.out.below (HU.out.trans ((hHeld.2.2.2.2.2.2.2.2).mono hU))) rfl (by omega) (own_manyG KF w3 0 106 [(TA, rA), (TB, rB)] #[.string TA, .bool rA, .string TB, .bool rB] rfl 2 rfl (by omega) (Nat.zero_le _)).row).mono ?_; rintro e w4 ⟨a9, c9, rfl, ho9, hb4⟩; have b4 := (hHeld.2.2.2.2.2.2.2.2).trans (hb4.mono (hHeld.2.2.2.2.2.2.2.2).size)))
  refine hK.out _ _ ?_ (fun hHeld => ?_)
  · try dsimp only
    exact HSx.out _ b4
  clear hK K
  refine wpAnyH_take (i := 10) (oi := ⟨some 2, _, _, _, _, _⟩) (v := ?_) rfl (by kernel_rfl) (by kernel_rfl) (by kernel_rfl) (fun _ _ _ h => h) (Or.inl ⟨by rfl, ?_⟩) (by assumption) ?_
  rotate_left
  · intro w hSw
    try dsimp only at hSw
    go_simp
    try with_reducible rfl
  simp only [Act.put, List.setIfInBounds_toArray]
  have HE := hidP (hHeld.2.2.2.2.2.2.2.2)
  refine wpAnyH_done (by kernel_rfl) ?_ _
  clear hHeld
  have hA := bA.size
  go_wp2_with fail
  go_ret
  exact ⟨a9, c9, by simp, ho9.mono (by simp; simp at hA; omega), HU.out.trans (HE.out.mono hU)⟩

set_option maxRecDepth 10000 in
set_option maxHeartbeats 4000000 in
theorem fo_4 (s q n : Int) (aS : Bool) (aH aL : BitVec 64) (ab b : Int) (hS : Bool) (hH hL : Int) (o : ByteArray) (t sp : Int) (TA TH : List UInt8) (HI : Hid (CmI s q n b t sp o)) (HTA : Hid (TA.length ≤ 200 ∧ ∀ w : World, Tabs w → Calls Tryz.prog 84 #[.agg #[.bool aS, .int .i64 aH.toInt, .int .i64 aL.toInt, .int .i64 ab]] w fun e w' => e = .returned (.string ⟨TA.toArray⟩) ∧ Below w.heap.size w w')) (_ : Hid (TH.length ≤ 200 ∧ ∀ w : World, Tabs w → Calls Tryz.prog 87 #[.agg #[.bool hS, .int .i64 hH, .int .i64 hL]] w fun e w' => e = .returned (.string ⟨TH.toArray⟩) ∧ Below w.heap.size w w')) (y : World) (ht : Tabs y) :
    Calls Tryz.prog 61 #[.iface 125 (.agg #[.int .i64 s, .int .i64 q, .int .i64 n, .bool aS, .int .i64 aH.toInt, .int .i64 aL.toInt, .int .i64 ab])] y fun e w' => ∃ a c, e = .returned (.slice a 4 c) ∧ OwnG KF 106 w' y.heap.size (.slice a 4 c) [((fT ⟨#[115, 101, 115, 115, 105, 111, 110]⟩ s), (rB 1 s 1000000)), ((fT ⟨#[115, 101, 113]⟩ q), (rB 1 q 1000000)), ((fT ⟨#[110, 111, 119]⟩ n), (rB 0 n 1000000000)), ((aT TA), (pokB aS aH aL ab))] ∧ Below y.heap.size y w' := by
  have HT := hidP ht
  clear ht
  have a1 : ∀ w : World, (Instr.typeAssert (.iface 125 (.agg #[.int .i64 s, .int .i64 q, .int .i64 n, .bool aS, .int .i64 aH.toInt, .int .i64 aL.toInt, .int .i64 ab])) 80 114 true).run Tryz.prog w = .ok (.tuple #[.agg #[.int .i64 0], .bool false]) w := fun _ => by kernel_rfl
  have a2 : ∀ w : World, (Instr.typeAssert (.iface 125 (.agg #[.int .i64 s, .int .i64 q, .int .i64 n, .bool aS, .int .i64 aH.toInt, .int .i64 aL.toInt, .int .i64 ab])) 80 116 true).run Tryz.prog w = .ok (.tuple #[.agg #[.int .i64 0, .int .i64 0], .bool false]) w := fun _ => by kernel_rfl
  have a3 : ∀ w : World, (Instr.typeAssert (.iface 125 (.agg #[.int .i64 s, .int .i64 q, .int .i64 n, .bool aS, .int .i64 aH.toInt, .int .i64 aL.toInt, .int .i64 ab])) 80 123 true).run Tryz.prog w = .ok (.tuple #[.agg #[.int .i64 0, .int .i64 0, .int .i64 0, .bool false, .int .i64 0, .int .i64 0, .int .i64 0, .int .i64 0], .bool false]) w := fun _ => by kernel_rfl
  have a4 : ∀ w : World, (Instr.typeAssert (.iface 125 (.agg #[.int .i64 s, .int .i64 q, .int .i64 n, .bool aS, .int .i64 aH.toInt, .int .i64 aL.toInt, .int .i64 ab])) 80 125 true).run Tryz.prog w = .ok (.tuple #[.agg #[.int .i64 s, .int .i64 q, .int .i64 n, .bool aS, .int .i64 aH.toInt, .int .i64 aL.toInt, .int .i64 ab], .bool true]) w := fun _ => by kernel_rfl
  have CS := hidP (fun w (h : Tabs w) => sessionField_any s HI.out.s w h)
  have CQ := hidP (fun w (h : Tabs w) => seqField_any q HI.out.q w h)
  have CN := hidP (fun w (h : Tabs w) => nowField_any n HI.out.n w h)
  have CA := hidP (fun w (h : Tabs w) => atField_any aS aH aL ab TA HTA.out.1 HTA.out.2 w h)
  have CW := hidP (fun g m bs w h e1 e2 e3 => with_any s q n HI.out.s HI.out.q HI.out.n g m bs w h e1 e2 e3)
  generalize fT ⟨#[115, 101, 115, 115, 105, 111, 110]⟩ s = TS at *
  generalize rB 1 s 1000000 = rS at *
  generalize fT ⟨#[115, 101, 113]⟩ q = TQ at *
  generalize rB 1 q 1000000 = rQ at *
  generalize fT ⟨#[110, 111, 119]⟩ n = TN at *
  generalize rB 0 n 1000000000 = rN at *
  generalize aT TA = TA at *
  generalize pokB aS aH aL ab = rA at *
  clear HI HTA
  go_enter Tryz.func61, Tryz.ntmps61
  go_wp2_with fail
  have u0 : (y.alloc (.cells #[.int .i64 s, .int .i64 q, .int .i64 n, .bool aS, .int .i64 aH.toInt, .int .i64 aL.toInt, .int .i64 ab] 125)).cell? ⟨y.heap.size, 0, none⟩ = some (.int .i64 s) := by simp [go_sem]
  have u1 : (y.alloc (.cells #[.int .i64 s, .int .i64 q, .int .i64 n, .bool aS, .int .i64 aH.toInt, .int .i64 aL.toInt, .int .i64 ab] 125)).cell? ⟨y.heap.size, 1, none⟩ = some (.int .i64 q) := by simp [go_sem]
  have u2 : (y.alloc (.cells #[.int .i64 s, .int .i64 q, .int .i64 n, .bool aS, .int .i64 aH.toInt, .int .i64 aL.toInt, .int .i64 ab] 125)).cell? ⟨y.heap.size, 2, none⟩ = some (.int .i64 n) := by simp [go_sem]
  have u3 : (y.alloc (.cells #[.int .i64 s, .int .i64 q, .int .i64 n, .bool aS, .int .i64 aH.toInt, .int .i64 aL.toInt, .int .i64 ab] 125)).cell? ⟨y.heap.size, 3, none⟩ = some (.bool aS) := by simp [go_sem]
  have u4 : (y.alloc (.cells #[.int .i64 s, .int .i64 q, .int .i64 n, .bool aS, .int .i64 aH.toInt, .int .i64 aL.toInt, .int .i64 ab] 125)).cell? ⟨y.heap.size, 4, none⟩ = some (.int .i64 aH.toInt) := by simp [go_sem]
  have u5 : (y.alloc (.cells #[.int .i64 s, .int .i64 q, .int .i64 n, .bool aS, .int .i64 aH.toInt, .int .i64 aL.toInt, .int .i64 ab] 125)).cell? ⟨y.heap.size, 5, none⟩ = some (.int .i64 aL.toInt) := by simp [go_sem]
  have u6 : (y.alloc (.cells #[.int .i64 s, .int .i64 q, .int .i64 n, .bool aS, .int .i64 aH.toInt, .int .i64 aL.toInt, .int .i64 ab] 125)).cell? ⟨y.heap.size, 6, none⟩ = some (.int .i64 ab) := by simp [go_sem]
  have uL : y.heap.size < (y.alloc (.cells #[.int .i64 s, .int .i64 q, .int .i64 n, .bool aS, .int .i64 aH.toInt, .int .i64 aL.toInt, .int .i64 ab] 125)).heap.size := by simp
  have HU := hidP ((Below.refl y.heap.size y).alloc (Nat.le_refl _) (.cells #[.int .i64 s, .int .i64 q, .int .i64 n, .bool aS, .int .i64 aH.toInt, .int .i64 aL.toInt, .int .i64 ab] 125))
  generalize y.alloc (.cells #[.int .i64 s, .int .i64 q, .int .i64 n, .bool aS, .int .i64 aH.toInt, .int .i64 aL.toInt, .int .i64 ab] 125) = W1 at *
  have hU := HU.out.size
  have HSx : Hid (∀ x, Below W1.heap.size W1 x → (x.cell? ⟨y.heap.size, 0, none⟩ = some (.int .i64 s) ∧ x.cell? ⟨y.heap.size, 1, none⟩ = some (.int .i64 q) ∧ x.cell? ⟨y.heap.size, 2, none⟩ = some (.int .i64 n) ∧ x.cell? ⟨y.heap.size, 3, none⟩ = some (.bool aS) ∧ x.cell? ⟨y.heap.size, 4, none⟩ = some (.int .i64 aH.toInt) ∧ x.cell? ⟨y.heap.size, 5, none⟩ = some (.int .i64 aL.toInt) ∧ x.cell? ⟨y.heap.size, 6, none⟩ = some (.int .i64 ab) ∧ Below W1.heap.size W1 x)) := hidP fun x h =>
    ⟨(h.cell uL).trans u0, (h.cell uL).trans u1, (h.cell uL).trans u2, (h.cell uL).trans u3, (h.cell uL).trans u4, (h.cell uL).trans u5, (h.cell uL).trans u6, h⟩
  refine wp_region_held_drew (S := (fun x => x.cell? ⟨y.heap.size, 0, none⟩ = some (.int .i64 s) ∧ x.cell? ⟨y.heap.size, 1, none⟩ = some (.int .i64 q) ∧ x.cell? ⟨y.heap.size, 2, none⟩ = some (.int .i64 n) ∧ x.cell? ⟨y.heap.size, 3, none⟩ = some (.bool aS) ∧ x.cell? ⟨y.heap.size, 4, none⟩ = some (.int .i64 aH.toInt) ∧ x.cell? ⟨y.heap.size, 5, none⟩ = some (.int .i64 aL.toInt) ∧ x.cell? ⟨y.heap.size, 6, none⟩ = some (.int .i64 ab) ∧ Below W1.heap.size W1 x)) (by kernel_rfl) ?_ (fun hHeld => ?_)
  · try dsimp only
    exact HSx.out _ ((Below.refl _ _).drew)
  refine wpAnyH_take (i := 0) (oi := ⟨some 48, _, _, _, _, _⟩) (v := ?_) rfl (by kernel_rfl) (by kernel_rfl) (by kernel_rfl) (fun _ _ _ h => h) (Or.inl ⟨by rfl, ?_⟩) (by assumption) ?_
  rotate_left
  · intro w hSw
    try dsimp only at hSw
    go_simp
    try with_reducible rfl
  simp only [Act.put, List.setIfInBounds_toArray, List.set_cons_zero, List.set_cons_succ]
  refine wpAnyH_take (i := 1) (oi := ⟨some 49, _, _, _, _, _⟩) (v := ?_) rfl (by kernel_rfl) (by kernel_rfl) (by kernel_rfl) (fun _ _ _ h => h) (Or.inl ⟨by rfl, ?_⟩) (by assumption) ?_
  rotate_left
  · intro w hSw
    try dsimp only at hSw
    go_simp
    try with_reducible rfl
  simp only [Act.put, List.setIfInBounds_toArray, List.set_cons_zero, List.set_cons_succ]
  refine wpAnyH_take (i := 2) (oi := ⟨some 50, _, _, _, _, _⟩) (v := ?_) rfl (by kernel_rfl) (by kernel_rfl) (by kernel_rfl) (fun _ _ _ h => h) (Or.inl ⟨by rfl, ?_⟩) (by assumption) ?_
  rotate_left
  · intro w hSw
    try dsimp only at hSw
    go_simp
    try with_reducible rfl
  simp only [Act.put, List.setIfInBounds_toArray, List.set_cons_zero, List.set_cons_succ]
  refine wpAnyH_take (i := 3) (oi := ⟨some 51, _, _, _, _, _⟩) (v := ?_) rfl (by kernel_rfl) (by kernel_rfl) (by kernel_rfl) (fun _ _ _ h => h) (Or.inl ⟨by rfl, ?_⟩) (by assumption) ?_
  rotate_left
  · intro w hSw
    try dsimp only at hSw
    go_simp
    try with_reducible rfl
  simp only [Act.put, List.setIfInBounds_toArray, List.set_cons_zero, List.set_cons_succ]
  refine wpAnyH_ready (rs := [4]) (by kernel_rfl) (by simp) ?_
  refine AllReadyH.cons rfl (fun K hK => ?_) AllReadyH.nil
  go_simp
  go_wp2_with (first | (go_at_call 76; refine (CA.out _ (HT.out.below (HU.out.trans ((hHeld.2.2.2.2.2.2.2).mono hU)))).mono ?_; rintro e w2 ⟨rfl, hb2⟩; have b2 := (hHeld.2.2.2.2.2.2.2).trans (hb2.mono (hHeld.2.2.2.2.2.2.2).size)))
  refine hK.out _ _ ?_ (fun hHeld => ?_)
  · try dsimp only
    exact HSx.out _ b2
  clear hK K
  refine wpAnyH_ready (rs := [5]) (by kernel_rfl) (by simp) ?_
  refine AllReadyH.cons rfl (fun K hK => ?_) AllReadyH.nil
  go_simp
  have bA := (hHeld.2.2.2.2.2.2.2).alloc (hHeld.2.2.2.2.2.2.2).size (.cells #[.string TA, .bool rA] 106)
  refine hK.out _ _ ?_ (fun hHeld => ?_)
  · try dsimp only
    exact HSx.out _ bA
  clear hK K
  refine wpAnyH_ready (rs := [6]) (by kernel_rfl) (by simp) ?_
  refine AllReadyH.cons rfl (fun K hK => ?_) AllReadyH.nil
  go_simp
  go_wp2_with (first | (go_at_call 75; refine (CW.out w2.heap.size 1 [(TA, rA)] _ (HT.out.below (HU.out.trans ((hHeld.2.2.2.2.2.2.2).mono hU))) rfl (by omega) (own_manyG KF w2 0 106 [(TA, rA)] #[.string TA, .bool rA] rfl 1 rfl (by omega) (Nat.zero_le _)).row).mono ?_; rintro e w3 ⟨a9, c9, rfl, ho9, hb3⟩; have b3 := (hHeld.2.2.2.2.2.2.2).trans (hb3.mono (hHeld.2.2.2.2.2.2.2).size)))
  refine hK.out _ _ ?_ (fun hHeld => ?_)
  · try dsimp only
    exact HSx.out _ b3
  clear hK K
  refine wpAnyH_take (i := 7) (oi := ⟨some 2, _, _, _, _, _⟩) (v := ?_) rfl (by kernel_rfl) (by kernel_rfl) (by kernel_rfl) (fun _ _ _ h => h) (Or.inl ⟨by rfl, ?_⟩) (by assumption) ?_
  rotate_left
  · intro w hSw
    try dsimp only at hSw
    go_simp
    try with_reducible rfl
  simp only [Act.put, List.setIfInBounds_toArray]
  have HE := hidP (hHeld.2.2.2.2.2.2.2)
  refine wpAnyH_done (by kernel_rfl) ?_ _
  clear hHeld
  have hA := bA.size
  go_wp2_with fail
  go_ret
  exact ⟨a9, c9, by simp, ho9.mono (by simp; simp at hA; omega), HU.out.trans (HE.out.mono hU)⟩

end Go.Proofs.YtnchndcanhmbeaaGreatDoor
