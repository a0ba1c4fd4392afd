/-
  fieldsOf by kind: the fields stand in the text's order. The row is new, nothing old turns.
-/
import Derived.Test.YtoadckdokdcppaaDoorGCmI
namespace Go.Proofs.YtoadckdokdcppaaDoor
open Go.RowKit

set_option maxRecDepth 10000 in
set_option maxHeartbeats 4000000 in
theorem fo_8 (s q n : Int) (aS : Bool) (aH aL : BitVec 64) (ab b : Int) (hS : Bool) (hH hL : Int) (o : ByteArray) (t sp : Int) (TA TH : List UInt8) (HI : Hid (CmI s q n b t sp o)) (_ : Hid (TA.length ≤ 200 ∧ ∀ w : World, Tabs w → Calls Tryd.prog 48 #[.agg #[.bool aS, .int .i64 aH.toInt, .int .i64 aL.toInt, .int .i64 ab]] w fun e w' => e = .returned (.string ⟨TA.toArray⟩) ∧ Below w.heap.size w w')) (HTH : Hid (TH.length ≤ 200 ∧ ∀ w : World, Tabs w → Calls Tryd.prog 51 #[.agg #[.bool hS, .int .i64 hH, .int .i64 hL]] w fun e w' => e = .returned (.string ⟨TH.toArray⟩) ∧ Below w.heap.size w w')) (y : World) (ht : Tabs y) :
    Calls Tryd.prog 24 #[.iface 88 (.agg #[.int .i64 s, .int .i64 q, .int .i64 n, .bool hS, .int .i64 hH, .int .i64 hL, .string o, .int .i64 sp])] y fun e w' => ∃ a c, e = .returned (.slice a 6 c) ∧ OwnG KF 58 w' y.heap.size (.slice a 6 c) [((fT ⟨#[115, 101, 115, 115, 105, 111, 110]⟩ s), (rB 1 s 1000000)), ((fT ⟨#[115, 101, 113]⟩ q), (rB 1 q 1000000)), ((fT ⟨#[110, 111, 119]⟩ n), (rB 0 n 1000000000)), ((hT TH), (okB hS hH hL)), ((oT o), (ownB o)), ((fT ⟨#[115, 112, 97, 110]⟩ sp), (rB 1 sp 1000))] ∧ Below y.heap.size y w' := by
  have HT := hidP ht
  clear ht
  have a1 : ∀ w : World, (Instr.typeAssert (.iface 88 (.agg #[.int .i64 s, .int .i64 q, .int .i64 n, .bool hS, .int .i64 hH, .int .i64 hL, .string o, .int .i64 sp])) 48 69 true).run Tryd.prog w = .ok (.tuple #[.agg #[.int .i64 0], .bool false]) w := fun _ => by kernel_rfl
  have a2 : ∀ w : World, (Instr.typeAssert (.iface 88 (.agg #[.int .i64 s, .int .i64 q, .int .i64 n, .bool hS, .int .i64 hH, .int .i64 hL, .string o, .int .i64 sp])) 48 72 true).run Tryd.prog w = .ok (.tuple #[.agg #[.int .i64 0, .int .i64 0], .bool false]) w := fun _ => by kernel_rfl
  have a3 : ∀ w : World, (Instr.typeAssert (.iface 88 (.agg #[.int .i64 s, .int .i64 q, .int .i64 n, .bool hS, .int .i64 hH, .int .i64 hL, .string o, .int .i64 sp])) 48 76 true).run Tryd.prog w = .ok (.tuple #[.agg #[.int .i64 0, .int .i64 0, .int .i64 0, .bool false, .int .i64 0, .int .i64 0, .int .i64 0, .int .i64 0], .bool false]) w := fun _ => by kernel_rfl
  have a4 : ∀ w : World, (Instr.typeAssert (.iface 88 (.agg #[.int .i64 s, .int .i64 q, .int .i64 n, .bool hS, .int .i64 hH, .int .i64 hL, .string o, .int .i64 sp])) 48 80 true).run Tryd.prog w = .ok (.tuple #[.agg #[.int .i64 0, .int .i64 0, .int .i64 0, .bool false, .int .i64 0, .int .i64 0, .int .i64 0], .bool false]) w := fun _ => by kernel_rfl
  have a5 : ∀ w : World, (Instr.typeAssert (.iface 88 (.agg #[.int .i64 s, .int .i64 q, .int .i64 n, .bool hS, .int .i64 hH, .int .i64 hL, .string o, .int .i64 sp])) 48 82 true).run Tryd.prog w = .ok (.tuple #[.agg #[.int .i64 0, .int .i64 0, .int .i64 0, .bool false, .int .i64 0, .int .i64 0, .int .i64 0, .string ⟨#[]⟩], .bool false]) w := fun _ => by kernel_rfl
  have a6 : ∀ w : World, (Instr.typeAssert (.iface 88 (.agg #[.int .i64 s, .int .i64 q, .int .i64 n, .bool hS, .int .i64 hH, .int .i64 hL, .string o, .int .i64 sp])) 48 84 true).run Tryd.prog w = .ok (.tuple #[.agg #[.int .i64 0, .int .i64 0, .int .i64 0, .bool false, .int .i64 0, .int .i64 0, .int .i64 0, .string ⟨#[]⟩], .bool false]) w := fun _ => by kernel_rfl
  have a7 : ∀ w : World, (Instr.typeAssert (.iface 88 (.agg #[.int .i64 s, .int .i64 q, .int .i64 n, .bool hS, .int .i64 hH, .int .i64 hL, .string o, .int .i64 sp])) 48 86 true).run Tryd.prog w = .ok (.tuple #[.agg #[.int .i64 0, .int .i64 0, .int .i64 0, .bool false, .int .i64 0, .int .i64 0, .int .i64 0, .string ⟨#[]⟩, .int .i64 0], .bool false]) w := fun _ => by kernel_rfl
  have a8 : ∀ w : World, (Instr.typeAssert (.iface 88 (.agg #[.int .i64 s, .int .i64 q, .int .i64 n, .bool hS, .int .i64 hH, .int .i64 hL, .string o, .int .i64 sp])) 48 88 true).run Tryd.prog w = .ok (.tuple #[.agg #[.int .i64 s, .int .i64 q, .int .i64 n, .bool hS, .int .i64 hH, .int .i64 hL, .string o, .int .i64 sp], .bool true]) w := fun _ => by kernel_rfl
  have CS := hidP (fun w (h : Tabs w) => sessionField_any s HI.out.s w h)
  have CQ := hidP (fun w (h : Tabs w) => seqField_any q HI.out.q w h)
  have CN := hidP (fun w (h : Tabs w) => nowField_any n HI.out.n w h)
  have CH := hidP (fun w (h : Tabs w) => hostField_any hS hH hL TH HTH.out.1 HTH.out.2 w h)
  have CO := hidP (fun w => ownerField_any o HI.out.o w)
  have CP := hidP (fun w (h : Tabs w) => spanField_any sp HI.out.p w h)
  have CW := hidP (fun g m bs w h e1 e2 e3 => with_any s q n HI.out.s HI.out.q HI.out.n g m bs w h e1 e2 e3)
  generalize fT ⟨#[115, 101, 115, 115, 105, 111, 110]⟩ s = TS at *
  generalize rB 1 s 1000000 = rS at *
  generalize fT ⟨#[115, 101, 113]⟩ q = TQ at *
  generalize rB 1 q 1000000 = rQ at *
  generalize fT ⟨#[110, 111, 119]⟩ n = TN at *
  generalize rB 0 n 1000000000 = rN at *
  generalize hT TH = TH at *
  generalize okB hS hH hL = rH at *
  generalize oT o = TO at *
  generalize ownB o = rO at *
  generalize fT ⟨#[115, 112, 97, 110]⟩ sp = TP at *
  generalize rB 1 sp 1000 = rP at *
  clear HI HTH
  go_enter Tryd.func24, Tryd.ntmps24
  go_wp2_with fail
  have u0 : (y.alloc (.cells #[.int .i64 s, .int .i64 q, .int .i64 n, .bool hS, .int .i64 hH, .int .i64 hL, .string o, .int .i64 sp] 88)).cell? ⟨y.heap.size, 0, none⟩ = some (.int .i64 s) := by simp [go_sem]
  have u1 : (y.alloc (.cells #[.int .i64 s, .int .i64 q, .int .i64 n, .bool hS, .int .i64 hH, .int .i64 hL, .string o, .int .i64 sp] 88)).cell? ⟨y.heap.size, 1, none⟩ = some (.int .i64 q) := by simp [go_sem]
  have u2 : (y.alloc (.cells #[.int .i64 s, .int .i64 q, .int .i64 n, .bool hS, .int .i64 hH, .int .i64 hL, .string o, .int .i64 sp] 88)).cell? ⟨y.heap.size, 2, none⟩ = some (.int .i64 n) := by simp [go_sem]
  have u3 : (y.alloc (.cells #[.int .i64 s, .int .i64 q, .int .i64 n, .bool hS, .int .i64 hH, .int .i64 hL, .string o, .int .i64 sp] 88)).cell? ⟨y.heap.size, 3, none⟩ = some (.bool hS) := by simp [go_sem]
  have u4 : (y.alloc (.cells #[.int .i64 s, .int .i64 q, .int .i64 n, .bool hS, .int .i64 hH, .int .i64 hL, .string o, .int .i64 sp] 88)).cell? ⟨y.heap.size, 4, none⟩ = some (.int .i64 hH) := by simp [go_sem]
  have u5 : (y.alloc (.cells #[.int .i64 s, .int .i64 q, .int .i64 n, .bool hS, .int .i64 hH, .int .i64 hL, .string o, .int .i64 sp] 88)).cell? ⟨y.heap.size, 5, none⟩ = some (.int .i64 hL) := by simp [go_sem]
  have u6 : (y.alloc (.cells #[.int .i64 s, .int .i64 q, .int .i64 n, .bool hS, .int .i64 hH, .int .i64 hL, .string o, .int .i64 sp] 88)).cell? ⟨y.heap.size, 6, none⟩ = some (.string o) := by simp [go_sem]
  have u7 : (y.alloc (.cells #[.int .i64 s, .int .i64 q, .int .i64 n, .bool hS, .int .i64 hH, .int .i64 hL, .string o, .int .i64 sp] 88)).cell? ⟨y.heap.size, 7, none⟩ = some (.int .i64 sp) := by simp [go_sem]
  have uL : y.heap.size < (y.alloc (.cells #[.int .i64 s, .int .i64 q, .int .i64 n, .bool hS, .int .i64 hH, .int .i64 hL, .string o, .int .i64 sp] 88)).heap.size := by simp
  have HU := hidP ((Below.refl y.heap.size y).alloc (Nat.le_refl _) (.cells #[.int .i64 s, .int .i64 q, .int .i64 n, .bool hS, .int .i64 hH, .int .i64 hL, .string o, .int .i64 sp] 88))
  generalize y.alloc (.cells #[.int .i64 s, .int .i64 q, .int .i64 n, .bool hS, .int .i64 hH, .int .i64 hL, .string o, .int .i64 sp] 88) = W1 at *
  have hU := HU.out.size
  have HSx : Hid (∀ x, Below W1.heap.size W1 x → (x.cell? ⟨y.heap.size, 0, none⟩ = some (.int .i64 s) ∧ x.cell? ⟨y.heap.size, 1, none⟩ = some (.int .i64 q) ∧ x.cell? ⟨y.heap.size, 2, none⟩ = some (.int .i64 n) ∧ x.cell? ⟨y.heap.size, 3, none⟩ = some (.bool hS) ∧ x.cell? ⟨y.heap.size, 4, none⟩ = some (.int .i64 hH) ∧ x.cell? ⟨y.heap.size, 5, none⟩ = some (.int .i64 hL) ∧ x.cell? ⟨y.heap.size, 6, none⟩ = some (.string o) ∧ x.cell? ⟨y.heap.size, 7, none⟩ = some (.int .i64 sp) ∧ Below W1.heap.size W1 x)) := hidP fun x h =>
    ⟨(h.cell uL).trans u0, (h.cell uL).trans u1, (h.cell uL).trans u2, (h.cell uL).trans u3, (h.cell uL).trans u4, (h.cell uL).trans u5, (h.cell uL).trans u6, (h.cell uL).trans u7, h⟩
  refine wp_region_held_drew (S := (fun x => x.cell? ⟨y.heap.size, 0, none⟩ = some (.int .i64 s) ∧ x.cell? ⟨y.heap.size, 1, none⟩ = some (.int .i64 q) ∧ x.cell? ⟨y.heap.size, 2, none⟩ = some (.int .i64 n) ∧ x.cell? ⟨y.heap.size, 3, none⟩ = some (.bool hS) ∧ x.cell? ⟨y.heap.size, 4, none⟩ = some (.int .i64 hH) ∧ x.cell? ⟨y.heap.size, 5, none⟩ = some (.int .i64 hL) ∧ x.cell? ⟨y.heap.size, 6, none⟩ = some (.string o) ∧ x.cell? ⟨y.heap.size, 7, none⟩ = some (.int .i64 sp) ∧ Below W1.heap.size W1 x)) (by kernel_rfl) ?_ (fun hHeld => ?_)
  · try dsimp only
    exact HSx.out _ ((Below.refl _ _).drew)
  refine wpAnyH_take (i := 0) (oi := ⟨some 100, _, _, _, _, _⟩) (v := ?_) rfl (by kernel_rfl) (by kernel_rfl) (by kernel_rfl) (fun _ _ _ h => h) (Or.inl ⟨by rfl, ?_⟩) (by assumption) ?_
  rotate_left
  · intro w hSw
    try dsimp only at hSw
    go_simp
    try with_reducible rfl
  simp only [Act.put, List.setIfInBounds_toArray, List.set_cons_zero, List.set_cons_succ]
  refine wpAnyH_take (i := 1) (oi := ⟨some 101, _, _, _, _, _⟩) (v := ?_) rfl (by kernel_rfl) (by kernel_rfl) (by kernel_rfl) (fun _ _ _ h => h) (Or.inl ⟨by rfl, ?_⟩) (by assumption) ?_
  rotate_left
  · intro w hSw
    try dsimp only at hSw
    go_simp
    try with_reducible rfl
  simp only [Act.put, List.setIfInBounds_toArray, List.set_cons_zero, List.set_cons_succ]
  refine wpAnyH_take (i := 2) (oi := ⟨some 102, _, _, _, _, _⟩) (v := ?_) rfl (by kernel_rfl) (by kernel_rfl) (by kernel_rfl) (fun _ _ _ h => h) (Or.inl ⟨by rfl, ?_⟩) (by assumption) ?_
  rotate_left
  · intro w hSw
    try dsimp only at hSw
    go_simp
    try with_reducible rfl
  simp only [Act.put, List.setIfInBounds_toArray, List.set_cons_zero, List.set_cons_succ]
  refine wpAnyH_take (i := 3) (oi := ⟨some 103, _, _, _, _, _⟩) (v := ?_) rfl (by kernel_rfl) (by kernel_rfl) (by kernel_rfl) (fun _ _ _ h => h) (Or.inl ⟨by rfl, ?_⟩) (by assumption) ?_
  rotate_left
  · intro w hSw
    try dsimp only at hSw
    go_simp
    try with_reducible rfl
  simp only [Act.put, List.setIfInBounds_toArray, List.set_cons_zero, List.set_cons_succ]
  refine wpAnyH_take (i := 5) (oi := ⟨some 105, _, _, _, _, _⟩) (v := ?_) rfl (by kernel_rfl) (by kernel_rfl) (by kernel_rfl) (fun _ _ _ h => h) (Or.inl ⟨by rfl, ?_⟩) (by assumption) ?_
  rotate_left
  · intro w hSw
    try dsimp only at hSw
    go_simp
    try with_reducible rfl
  simp only [Act.put, List.setIfInBounds_toArray, List.set_cons_zero, List.set_cons_succ]
  refine wpAnyH_take (i := 6) (oi := ⟨some 106, _, _, _, _, _⟩) (v := ?_) rfl (by kernel_rfl) (by kernel_rfl) (by kernel_rfl) (fun _ _ _ h => h) (Or.inl ⟨by rfl, ?_⟩) (by assumption) ?_
  rotate_left
  · intro w hSw
    try dsimp only at hSw
    go_simp
    try with_reducible rfl
  simp only [Act.put, List.setIfInBounds_toArray, List.set_cons_zero, List.set_cons_succ]
  refine wpAnyH_take (i := 8) (oi := ⟨some 108, _, _, _, _, _⟩) (v := ?_) rfl (by kernel_rfl) (by kernel_rfl) (by kernel_rfl) (fun _ _ _ h => h) (Or.inl ⟨by rfl, ?_⟩) (by assumption) ?_
  rotate_left
  · intro w hSw
    try dsimp only at hSw
    go_simp
    try with_reducible rfl
  simp only [Act.put, List.setIfInBounds_toArray, List.set_cons_zero, List.set_cons_succ]
  refine wpAnyH_take (i := 9) (oi := ⟨some 109, _, _, _, _, _⟩) (v := ?_) rfl (by kernel_rfl) (by kernel_rfl) (by kernel_rfl) (fun _ _ _ h => h) (Or.inl ⟨by rfl, ?_⟩) (by assumption) ?_
  rotate_left
  · intro w hSw
    try dsimp only at hSw
    go_simp
    try with_reducible rfl
  simp only [Act.put, List.setIfInBounds_toArray, List.set_cons_zero, List.set_cons_succ]
  refine wpAnyH_ready (rs := [4]) (by kernel_rfl) (by simp) ?_
  refine AllReadyH.cons rfl (fun K hK => ?_) AllReadyH.nil
  go_simp
  go_wp2_with (first | (go_at_call 38; refine (CH.out _ (HT.out.below (HU.out.trans ((hHeld.2.2.2.2.2.2.2.2).mono hU)))).mono ?_; rintro e w2 ⟨rfl, hb2⟩; have b2 := (hHeld.2.2.2.2.2.2.2.2).trans (hb2.mono (hHeld.2.2.2.2.2.2.2.2).size)))
  refine hK.out _ _ ?_ (fun hHeld => ?_)
  · try dsimp only
    exact HSx.out _ b2
  clear hK K
  refine wpAnyH_ready (rs := [7]) (by kernel_rfl) (by simp) ?_
  refine AllReadyH.cons rfl (fun K hK => ?_) AllReadyH.nil
  go_simp
  go_wp2_with (first | (go_at_call 36; refine (CO.out _).mono ?_; rintro e w3 ⟨rfl, hb3⟩; have b3 := (hHeld.2.2.2.2.2.2.2.2).trans (hb3.mono (hHeld.2.2.2.2.2.2.2.2).size)))
  refine hK.out _ _ ?_ (fun hHeld => ?_)
  · try dsimp only
    exact HSx.out _ b3
  clear hK K
  refine wpAnyH_ready (rs := [10]) (by kernel_rfl) (by simp) ?_
  refine AllReadyH.cons rfl (fun K hK => ?_) AllReadyH.nil
  go_simp
  go_wp2_with (first | (go_at_call 37; refine (CP.out _ (HT.out.below (HU.out.trans ((hHeld.2.2.2.2.2.2.2.2).mono hU)))).mono ?_; rintro e w4 ⟨rfl, hb4⟩; have b4 := (hHeld.2.2.2.2.2.2.2.2).trans (hb4.mono (hHeld.2.2.2.2.2.2.2.2).size)))
  refine hK.out _ _ ?_ (fun hHeld => ?_)
  · try dsimp only
    exact HSx.out _ b4
  clear hK K
  refine wpAnyH_ready (rs := [11]) (by kernel_rfl) (by simp) ?_
  refine AllReadyH.cons rfl (fun K hK => ?_) AllReadyH.nil
  go_simp
  have bA := (hHeld.2.2.2.2.2.2.2.2).alloc (hHeld.2.2.2.2.2.2.2.2).size (.cells #[.string TH, .bool rH, .string TO, .bool rO, .string TP, .bool rP] 58)
  refine hK.out _ _ ?_ (fun hHeld => ?_)
  · try dsimp only
    exact HSx.out _ bA
  clear hK K
  refine wpAnyH_ready (rs := [12]) (by kernel_rfl) (by simp) ?_
  refine AllReadyH.cons rfl (fun K hK => ?_) AllReadyH.nil
  go_simp
  go_wp2_with (first | (go_at_call 33; refine (CW.out w4.heap.size 3 [(TH, rH), (TO, rO), (TP, rP)] _ (HT.out.below (HU.out.trans ((hHeld.2.2.2.2.2.2.2.2).mono hU))) rfl (by omega) (own_manyG KF w4 0 58 [(TH, rH), (TO, rO), (TP, rP)] #[.string TH, .bool rH, .string TO, .bool rO, .string TP, .bool rP] rfl 3 rfl (by omega) (Nat.zero_le _)).row).mono ?_; rintro e w5 ⟨a9, c9, rfl, ho9, hb5⟩; have b5 := (hHeld.2.2.2.2.2.2.2.2).trans (hb5.mono (hHeld.2.2.2.2.2.2.2.2).size)))
  refine hK.out _ _ ?_ (fun hHeld => ?_)
  · try dsimp only
    exact HSx.out _ b5
  clear hK K
  refine wpAnyH_take (i := 13) (oi := ⟨some 2, _, _, _, _, _⟩) (v := ?_) rfl (by kernel_rfl) (by kernel_rfl) (by kernel_rfl) (fun _ _ _ h => h) (Or.inl ⟨by rfl, ?_⟩) (by assumption) ?_
  rotate_left
  · intro w hSw
    try dsimp only at hSw
    go_simp
    try with_reducible rfl
  simp only [Act.put, List.setIfInBounds_toArray]
  have HE := hidP (hHeld.2.2.2.2.2.2.2.2)
  refine wpAnyH_done (by kernel_rfl) ?_ _
  clear hHeld
  have hA := bA.size
  go_wp2_with fail
  go_ret
  exact ⟨a9, c9, by simp, ho9.mono (by simp; simp at hA; omega), HU.out.trans (HE.out.mono hU)⟩

set_option maxRecDepth 10000 in
set_option maxHeartbeats 4000000 in
theorem fo_9 (s q n : Int) (aS : Bool) (aH aL : BitVec 64) (ab b : Int) (hS : Bool) (hH hL : Int) (o : ByteArray) (t sp : Int) (TA TH : List UInt8) (HI : Hid (CmI s q n b t sp o)) (_ : Hid (TA.length ≤ 200 ∧ ∀ w : World, Tabs w → Calls Tryd.prog 48 #[.agg #[.bool aS, .int .i64 aH.toInt, .int .i64 aL.toInt, .int .i64 ab]] w fun e w' => e = .returned (.string ⟨TA.toArray⟩) ∧ Below w.heap.size w w')) (HTH : Hid (TH.length ≤ 200 ∧ ∀ w : World, Tabs w → Calls Tryd.prog 51 #[.agg #[.bool hS, .int .i64 hH, .int .i64 hL]] w fun e w' => e = .returned (.string ⟨TH.toArray⟩) ∧ Below w.heap.size w w')) (y : World) (ht : Tabs y) :
    Calls Tryd.prog 24 #[.iface 91 (.agg #[.int .i64 s, .int .i64 q, .int .i64 n, .bool hS, .int .i64 hH, .int .i64 hL, .int .i64 t, .int .i64 sp])] y fun e w' => ∃ a c, e = .returned (.slice a 6 c) ∧ OwnG KF 58 w' y.heap.size (.slice a 6 c) [((fT ⟨#[115, 101, 115, 115, 105, 111, 110]⟩ s), (rB 1 s 1000000)), ((fT ⟨#[115, 101, 113]⟩ q), (rB 1 q 1000000)), ((fT ⟨#[110, 111, 119]⟩ n), (rB 0 n 1000000000)), ((hT TH), (okB hS hH hL)), ((fT ⟨#[116, 111, 107, 101, 110]⟩ t), (rB 1 t 1000000000)), ((fT ⟨#[115, 112, 97, 110]⟩ sp), (rB 1 sp 1000))] ∧ Below y.heap.size y w' := by
  have HT := hidP ht
  clear ht
  have a1 : ∀ w : World, (Instr.typeAssert (.iface 91 (.agg #[.int .i64 s, .int .i64 q, .int .i64 n, .bool hS, .int .i64 hH, .int .i64 hL, .int .i64 t, .int .i64 sp])) 48 69 true).run Tryd.prog w = .ok (.tuple #[.agg #[.int .i64 0], .bool false]) w := fun _ => by kernel_rfl
  have a2 : ∀ w : World, (Instr.typeAssert (.iface 91 (.agg #[.int .i64 s, .int .i64 q, .int .i64 n, .bool hS, .int .i64 hH, .int .i64 hL, .int .i64 t, .int .i64 sp])) 48 72 true).run Tryd.prog w = .ok (.tuple #[.agg #[.int .i64 0, .int .i64 0], .bool false]) w := fun _ => by kernel_rfl
  have a3 : ∀ w : World, (Instr.typeAssert (.iface 91 (.agg #[.int .i64 s, .int .i64 q, .int .i64 n, .bool hS, .int .i64 hH, .int .i64 hL, .int .i64 t, .int .i64 sp])) 48 76 true).run Tryd.prog w = .ok (.tuple #[.agg #[.int .i64 0, .int .i64 0, .int .i64 0, .bool false, .int .i64 0, .int .i64 0, .int .i64 0, .int .i64 0], .bool false]) w := fun _ => by kernel_rfl
  have a4 : ∀ w : World, (Instr.typeAssert (.iface 91 (.agg #[.int .i64 s, .int .i64 q, .int .i64 n, .bool hS, .int .i64 hH, .int .i64 hL, .int .i64 t, .int .i64 sp])) 48 80 true).run Tryd.prog w = .ok (.tuple #[.agg #[.int .i64 0, .int .i64 0, .int .i64 0, .bool false, .int .i64 0, .int .i64 0, .int .i64 0], .bool false]) w := fun _ => by kernel_rfl
  have a5 : ∀ w : World, (Instr.typeAssert (.iface 91 (.agg #[.int .i64 s, .int .i64 q, .int .i64 n, .bool hS, .int .i64 hH, .int .i64 hL, .int .i64 t, .int .i64 sp])) 48 82 true).run Tryd.prog w = .ok (.tuple #[.agg #[.int .i64 0, .int .i64 0, .int .i64 0, .bool false, .int .i64 0, .int .i64 0, .int .i64 0, .string ⟨#[]⟩], .bool false]) w := fun _ => by kernel_rfl
  have a6 : ∀ w : World, (Instr.typeAssert (.iface 91 (.agg #[.int .i64 s, .int .i64 q, .int .i64 n, .bool hS, .int .i64 hH, .int .i64 hL, .int .i64 t, .int .i64 sp])) 48 84 true).run Tryd.prog w = .ok (.tuple #[.agg #[.int .i64 0, .int .i64 0, .int .i64 0, .bool false, .int .i64 0, .int .i64 0, .int .i64 0, .string ⟨#[]⟩], .bool false]) w := fun _ => by kernel_rfl
  have a7 : ∀ w : World, (Instr.typeAssert (.iface 91 (.agg #[.int .i64 s, .int .i64 q, .int .i64 n, .bool hS, .int .i64 hH, .int .i64 hL, .int .i64 t, .int .i64 sp])) 48 86 true).run Tryd.prog w = .ok (.tuple #[.agg #[.int .i64 0, .int .i64 0, .int .i64 0, .bool false, .int .i64 0, .int .i64 0, .int .i64 0, .string ⟨#[]⟩, .int .i64 0], .bool false]) w := fun _ => by kernel_rfl
  have a8 : ∀ w : World, (Instr.typeAssert (.iface 91 (.agg #[.int .i64 s, .int .i64 q, .int .i64 n, .bool hS, .int .i64 hH, .int .i64 hL, .int .i64 t, .int .i64 sp])) 48 88 true).run Tryd.prog w = .ok (.tuple #[.agg #[.int .i64 0, .int .i64 0, .int .i64 0, .bool false, .int .i64 0, .int .i64 0, .string ⟨#[]⟩, .int .i64 0], .bool false]) w := fun _ => by kernel_rfl
  have a9 : ∀ w : World, (Instr.typeAssert (.iface 91 (.agg #[.int .i64 s, .int .i64 q, .int .i64 n, .bool hS, .int .i64 hH, .int .i64 hL, .int .i64 t, .int .i64 sp])) 48 91 true).run Tryd.prog w = .ok (.tuple #[.agg #[.int .i64 s, .int .i64 q, .int .i64 n, .bool hS, .int .i64 hH, .int .i64 hL, .int .i64 t, .int .i64 sp], .bool true]) w := fun _ => by kernel_rfl
  have CS := hidP (fun w (h : Tabs w) => sessionField_any s HI.out.s w h)
  have CQ := hidP (fun w (h : Tabs w) => seqField_any q HI.out.q w h)
  have CN := hidP (fun w (h : Tabs w) => nowField_any n HI.out.n w h)
  have CH := hidP (fun w (h : Tabs w) => hostField_any hS hH hL TH HTH.out.1 HTH.out.2 w h)
  have CT := hidP (fun w (h : Tabs w) => tokenField_any t HI.out.t w h)
  have CP := hidP (fun w (h : Tabs w) => spanField_any sp HI.out.p w h)
  have CW := hidP (fun g m bs w h e1 e2 e3 => with_any s q n HI.out.s HI.out.q HI.out.n g m bs w h e1 e2 e3)
  generalize fT ⟨#[115, 101, 115, 115, 105, 111, 110]⟩ s = TS at *
  generalize rB 1 s 1000000 = rS at *
  generalize fT ⟨#[115, 101, 113]⟩ q = TQ at *
  generalize rB 1 q 1000000 = rQ at *
  generalize fT ⟨#[110, 111, 119]⟩ n = TN at *
  generalize rB 0 n 1000000000 = rN at *
  generalize hT TH = TH at *
  generalize okB hS hH hL = rH at *
  generalize fT ⟨#[116, 111, 107, 101, 110]⟩ t = TT at *
  generalize rB 1 t 1000000000 = rT at *
  generalize fT ⟨#[115, 112, 97, 110]⟩ sp = TP at *
  generalize rB 1 sp 1000 = rP at *
  clear HI HTH
  go_enter Tryd.func24, Tryd.ntmps24
  go_wp2_with fail
  have u0 : (y.alloc (.cells #[.int .i64 s, .int .i64 q, .int .i64 n, .bool hS, .int .i64 hH, .int .i64 hL, .int .i64 t, .int .i64 sp] 91)).cell? ⟨y.heap.size, 0, none⟩ = some (.int .i64 s) := by simp [go_sem]
  have u1 : (y.alloc (.cells #[.int .i64 s, .int .i64 q, .int .i64 n, .bool hS, .int .i64 hH, .int .i64 hL, .int .i64 t, .int .i64 sp] 91)).cell? ⟨y.heap.size, 1, none⟩ = some (.int .i64 q) := by simp [go_sem]
  have u2 : (y.alloc (.cells #[.int .i64 s, .int .i64 q, .int .i64 n, .bool hS, .int .i64 hH, .int .i64 hL, .int .i64 t, .int .i64 sp] 91)).cell? ⟨y.heap.size, 2, none⟩ = some (.int .i64 n) := by simp [go_sem]
  have u3 : (y.alloc (.cells #[.int .i64 s, .int .i64 q, .int .i64 n, .bool hS, .int .i64 hH, .int .i64 hL, .int .i64 t, .int .i64 sp] 91)).cell? ⟨y.heap.size, 3, none⟩ = some (.bool hS) := by simp [go_sem]
  have u4 : (y.alloc (.cells #[.int .i64 s, .int .i64 q, .int .i64 n, .bool hS, .int .i64 hH, .int .i64 hL, .int .i64 t, .int .i64 sp] 91)).cell? ⟨y.heap.size, 4, none⟩ = some (.int .i64 hH) := by simp [go_sem]
  have u5 : (y.alloc (.cells #[.int .i64 s, .int .i64 q, .int .i64 n, .bool hS, .int .i64 hH, .int .i64 hL, .int .i64 t, .int .i64 sp] 91)).cell? ⟨y.heap.size, 5, none⟩ = some (.int .i64 hL) := by simp [go_sem]
  have u6 : (y.alloc (.cells #[.int .i64 s, .int .i64 q, .int .i64 n, .bool hS, .int .i64 hH, .int .i64 hL, .int .i64 t, .int .i64 sp] 91)).cell? ⟨y.heap.size, 6, none⟩ = some (.int .i64 t) := by simp [go_sem]
  have u7 : (y.alloc (.cells #[.int .i64 s, .int .i64 q, .int .i64 n, .bool hS, .int .i64 hH, .int .i64 hL, .int .i64 t, .int .i64 sp] 91)).cell? ⟨y.heap.size, 7, none⟩ = some (.int .i64 sp) := by simp [go_sem]
  have uL : y.heap.size < (y.alloc (.cells #[.int .i64 s, .int .i64 q, .int .i64 n, .bool hS, .int .i64 hH, .int .i64 hL, .int .i64 t, .int .i64 sp] 91)).heap.size := by simp
  have HU := hidP ((Below.refl y.heap.size y).alloc (Nat.le_refl _) (.cells #[.int .i64 s, .int .i64 q, .int .i64 n, .bool hS, .int .i64 hH, .int .i64 hL, .int .i64 t, .int .i64 sp] 91))
  generalize y.alloc (.cells #[.int .i64 s, .int .i64 q, .int .i64 n, .bool hS, .int .i64 hH, .int .i64 hL, .int .i64 t, .int .i64 sp] 91) = W1 at *
  have hU := HU.out.size
  have HSx : Hid (∀ x, Below W1.heap.size W1 x → (x.cell? ⟨y.heap.size, 0, none⟩ = some (.int .i64 s) ∧ x.cell? ⟨y.heap.size, 1, none⟩ = some (.int .i64 q) ∧ x.cell? ⟨y.heap.size, 2, none⟩ = some (.int .i64 n) ∧ x.cell? ⟨y.heap.size, 3, none⟩ = some (.bool hS) ∧ x.cell? ⟨y.heap.size, 4, none⟩ = some (.int .i64 hH) ∧ x.cell? ⟨y.heap.size, 5, none⟩ = some (.int .i64 hL) ∧ x.cell? ⟨y.heap.size, 6, none⟩ = some (.int .i64 t) ∧ x.cell? ⟨y.heap.size, 7, none⟩ = some (.int .i64 sp) ∧ Below W1.heap.size W1 x)) := hidP fun x h =>
    ⟨(h.cell uL).trans u0, (h.cell uL).trans u1, (h.cell uL).trans u2, (h.cell uL).trans u3, (h.cell uL).trans u4, (h.cell uL).trans u5, (h.cell uL).trans u6, (h.cell uL).trans u7, h⟩
  refine wp_region_held_drew (S := (fun x => x.cell? ⟨y.heap.size, 0, none⟩ = some (.int .i64 s) ∧ x.cell? ⟨y.heap.size, 1, none⟩ = some (.int .i64 q) ∧ x.cell? ⟨y.heap.size, 2, none⟩ = some (.int .i64 n) ∧ x.cell? ⟨y.heap.size, 3, none⟩ = some (.bool hS) ∧ x.cell? ⟨y.heap.size, 4, none⟩ = some (.int .i64 hH) ∧ x.cell? ⟨y.heap.size, 5, none⟩ = some (.int .i64 hL) ∧ x.cell? ⟨y.heap.size, 6, none⟩ = some (.int .i64 t) ∧ x.cell? ⟨y.heap.size, 7, none⟩ = some (.int .i64 sp) ∧ Below W1.heap.size W1 x)) (by kernel_rfl) ?_ (fun hHeld => ?_)
  · try dsimp only
    exact HSx.out _ ((Below.refl _ _).drew)
  refine wpAnyH_take (i := 0) (oi := ⟨some 116, _, _, _, _, _⟩) (v := ?_) rfl (by kernel_rfl) (by kernel_rfl) (by kernel_rfl) (fun _ _ _ h => h) (Or.inl ⟨by rfl, ?_⟩) (by assumption) ?_
  rotate_left
  · intro w hSw
    try dsimp only at hSw
    go_simp
    try with_reducible rfl
  simp only [Act.put, List.setIfInBounds_toArray, List.set_cons_zero, List.set_cons_succ]
  refine wpAnyH_take (i := 1) (oi := ⟨some 117, _, _, _, _, _⟩) (v := ?_) rfl (by kernel_rfl) (by kernel_rfl) (by kernel_rfl) (fun _ _ _ h => h) (Or.inl ⟨by rfl, ?_⟩) (by assumption) ?_
  rotate_left
  · intro w hSw
    try dsimp only at hSw
    go_simp
    try with_reducible rfl
  simp only [Act.put, List.setIfInBounds_toArray, List.set_cons_zero, List.set_cons_succ]
  refine wpAnyH_take (i := 2) (oi := ⟨some 118, _, _, _, _, _⟩) (v := ?_) rfl (by kernel_rfl) (by kernel_rfl) (by kernel_rfl) (fun _ _ _ h => h) (Or.inl ⟨by rfl, ?_⟩) (by assumption) ?_
  rotate_left
  · intro w hSw
    try dsimp only at hSw
    go_simp
    try with_reducible rfl
  simp only [Act.put, List.setIfInBounds_toArray, List.set_cons_zero, List.set_cons_succ]
  refine wpAnyH_take (i := 3) (oi := ⟨some 119, _, _, _, _, _⟩) (v := ?_) rfl (by kernel_rfl) (by kernel_rfl) (by kernel_rfl) (fun _ _ _ h => h) (Or.inl ⟨by rfl, ?_⟩) (by assumption) ?_
  rotate_left
  · intro w hSw
    try dsimp only at hSw
    go_simp
    try with_reducible rfl
  simp only [Act.put, List.setIfInBounds_toArray, List.set_cons_zero, List.set_cons_succ]
  refine wpAnyH_take (i := 5) (oi := ⟨some 121, _, _, _, _, _⟩) (v := ?_) rfl (by kernel_rfl) (by kernel_rfl) (by kernel_rfl) (fun _ _ _ h => h) (Or.inl ⟨by rfl, ?_⟩) (by assumption) ?_
  rotate_left
  · intro w hSw
    try dsimp only at hSw
    go_simp
    try with_reducible rfl
  simp only [Act.put, List.setIfInBounds_toArray, List.set_cons_zero, List.set_cons_succ]
  refine wpAnyH_take (i := 6) (oi := ⟨some 122, _, _, _, _, _⟩) (v := ?_) rfl (by kernel_rfl) (by kernel_rfl) (by kernel_rfl) (fun _ _ _ h => h) (Or.inl ⟨by rfl, ?_⟩) (by assumption) ?_
  rotate_left
  · intro w hSw
    try dsimp only at hSw
    go_simp
    try with_reducible rfl
  simp only [Act.put, List.setIfInBounds_toArray, List.set_cons_zero, List.set_cons_succ]
  refine wpAnyH_take (i := 8) (oi := ⟨some 124, _, _, _, _, _⟩) (v := ?_) rfl (by kernel_rfl) (by kernel_rfl) (by kernel_rfl) (fun _ _ _ h => h) (Or.inl ⟨by rfl, ?_⟩) (by assumption) ?_
  rotate_left
  · intro w hSw
    try dsimp only at hSw
    go_simp
    try with_reducible rfl
  simp only [Act.put, List.setIfInBounds_toArray, List.set_cons_zero, List.set_cons_succ]
  refine wpAnyH_take (i := 9) (oi := ⟨some 125, _, _, _, _, _⟩) (v := ?_) rfl (by kernel_rfl) (by kernel_rfl) (by kernel_rfl) (fun _ _ _ h => h) (Or.inl ⟨by rfl, ?_⟩) (by assumption) ?_
  rotate_left
  · intro w hSw
    try dsimp only at hSw
    go_simp
    try with_reducible rfl
  simp only [Act.put, List.setIfInBounds_toArray, List.set_cons_zero, List.set_cons_succ]
  refine wpAnyH_ready (rs := [4]) (by kernel_rfl) (by simp) ?_
  refine AllReadyH.cons rfl (fun K hK => ?_) AllReadyH.nil
  go_simp
  go_wp2_with (first | (go_at_call 38; refine (CH.out _ (HT.out.below (HU.out.trans ((hHeld.2.2.2.2.2.2.2.2).mono hU)))).mono ?_; rintro e w2 ⟨rfl, hb2⟩; have b2 := (hHeld.2.2.2.2.2.2.2.2).trans (hb2.mono (hHeld.2.2.2.2.2.2.2.2).size)))
  refine hK.out _ _ ?_ (fun hHeld => ?_)
  · try dsimp only
    exact HSx.out _ b2
  clear hK K
  refine wpAnyH_ready (rs := [7]) (by kernel_rfl) (by simp) ?_
  refine AllReadyH.cons rfl (fun K hK => ?_) AllReadyH.nil
  go_simp
  go_wp2_with (first | (go_at_call 39; refine (CT.out _ (HT.out.below (HU.out.trans ((hHeld.2.2.2.2.2.2.2.2).mono hU)))).mono ?_; rintro e w3 ⟨rfl, hb3⟩; have b3 := (hHeld.2.2.2.2.2.2.2.2).trans (hb3.mono (hHeld.2.2.2.2.2.2.2.2).size)))
  refine hK.out _ _ ?_ (fun hHeld => ?_)
  · try dsimp only
    exact HSx.out _ b3
  clear hK K
  refine wpAnyH_ready (rs := [10]) (by kernel_rfl) (by simp) ?_
  refine AllReadyH.cons rfl (fun K hK => ?_) AllReadyH.nil
  go_simp
  go_wp2_with (first | (go_at_call 37; refine (CP.out _ (HT.out.below (HU.out.trans ((hHeld.2.2.2.2.2.2.2.2).mono hU)))).mono ?_; rintro e w4 ⟨rfl, hb4⟩; have b4 := (hHeld.2.2.2.2.2.2.2.2).trans (hb4.mono (hHeld.2.2.2.2.2.2.2.2).size)))
  refine hK.out _ _ ?_ (fun hHeld => ?_)
  · try dsimp only
    exact HSx.out _ b4
  clear hK K
  refine wpAnyH_ready (rs := [11]) (by kernel_rfl) (by simp) ?_
  refine AllReadyH.cons rfl (fun K hK => ?_) AllReadyH.nil
  go_simp
  have bA := (hHeld.2.2.2.2.2.2.2.2).alloc (hHeld.2.2.2.2.2.2.2.2).size (.cells #[.string TH, .bool rH, .string TT, .bool rT, .string TP, .bool rP] 58)
  refine hK.out _ _ ?_ (fun hHeld => ?_)
  · try dsimp only
    exact HSx.out _ bA
  clear hK K
  refine wpAnyH_ready (rs := [12]) (by kernel_rfl) (by simp) ?_
  refine AllReadyH.cons rfl (fun K hK => ?_) AllReadyH.nil
  go_simp
  go_wp2_with (first | (go_at_call 33; refine (CW.out w4.heap.size 3 [(TH, rH), (TT, rT), (TP, rP)] _ (HT.out.below (HU.out.trans ((hHeld.2.2.2.2.2.2.2.2).mono hU))) rfl (by omega) (own_manyG KF w4 0 58 [(TH, rH), (TT, rT), (TP, rP)] #[.string TH, .bool rH, .string TT, .bool rT, .string TP, .bool rP] rfl 3 rfl (by omega) (Nat.zero_le _)).row).mono ?_; rintro e w5 ⟨a9, c9, rfl, ho9, hb5⟩; have b5 := (hHeld.2.2.2.2.2.2.2.2).trans (hb5.mono (hHeld.2.2.2.2.2.2.2.2).size)))
  refine hK.out _ _ ?_ (fun hHeld => ?_)
  · try dsimp only
    exact HSx.out _ b5
  clear hK K
  refine wpAnyH_take (i := 13) (oi := ⟨some 2, _, _, _, _, _⟩) (v := ?_) rfl (by kernel_rfl) (by kernel_rfl) (by kernel_rfl) (fun _ _ _ h => h) (Or.inl ⟨by rfl, ?_⟩) (by assumption) ?_
  rotate_left
  · intro w hSw
    try dsimp only at hSw
    go_simp
    try with_reducible rfl
  simp only [Act.put, List.setIfInBounds_toArray]
  have HE := hidP (hHeld.2.2.2.2.2.2.2.2)
  refine wpAnyH_done (by kernel_rfl) ?_ _
  clear hHeld
  have hA := bA.size
  go_wp2_with fail
  go_ret
  exact ⟨a9, c9, by simp, ho9.mono (by simp; simp at hA; omega), HU.out.trans (HE.out.mono hU)⟩

set_option maxRecDepth 10000 in
set_option maxHeartbeats 4000000 in
theorem fo_10 (s q n : Int) (aS : Bool) (aH aL : BitVec 64) (ab b : Int) (hS : Bool) (hH hL : Int) (o : ByteArray) (t sp : Int) (TA TH : List UInt8) (HI : Hid (CmI s q n b t sp o)) (_ : Hid (TA.length ≤ 200 ∧ ∀ w : World, Tabs w → Calls Tryd.prog 48 #[.agg #[.bool aS, .int .i64 aH.toInt, .int .i64 aL.toInt, .int .i64 ab]] w fun e w' => e = .returned (.string ⟨TA.toArray⟩) ∧ Below w.heap.size w w')) (HTH : Hid (TH.length ≤ 200 ∧ ∀ w : World, Tabs w → Calls Tryd.prog 51 #[.agg #[.bool hS, .int .i64 hH, .int .i64 hL]] w fun e w' => e = .returned (.string ⟨TH.toArray⟩) ∧ Below w.heap.size w w')) (y : World) (ht : Tabs y) :
    Calls Tryd.prog 24 #[.iface 93 (.agg #[.int .i64 s, .int .i64 q, .int .i64 n, .bool hS, .int .i64 hH, .int .i64 hL, .int .i64 t])] y fun e w' => ∃ a c, e = .returned (.slice a 5 c) ∧ OwnG KF 58 w' y.heap.size (.slice a 5 c) [((fT ⟨#[115, 101, 115, 115, 105, 111, 110]⟩ s), (rB 1 s 1000000)), ((fT ⟨#[115, 101, 113]⟩ q), (rB 1 q 1000000)), ((fT ⟨#[110, 111, 119]⟩ n), (rB 0 n 1000000000)), ((hT TH), (okB hS hH hL)), ((fT ⟨#[116, 111, 107, 101, 110]⟩ t), (rB 1 t 1000000000))] ∧ Below y.heap.size y w' := by
  have HT := hidP ht
  clear ht
  have a1 : ∀ w : World, (Instr.typeAssert (.iface 93 (.agg #[.int .i64 s, .int .i64 q, .int .i64 n, .bool hS, .int .i64 hH, .int .i64 hL, .int .i64 t])) 48 69 true).run Tryd.prog w = .ok (.tuple #[.agg #[.int .i64 0], .bool false]) w := fun _ => by kernel_rfl
  have a2 : ∀ w : World, (Instr.typeAssert (.iface 93 (.agg #[.int .i64 s, .int .i64 q, .int .i64 n, .bool hS, .int .i64 hH, .int .i64 hL, .int .i64 t])) 48 72 true).run Tryd.prog w = .ok (.tuple #[.agg #[.int .i64 0, .int .i64 0], .bool false]) w := fun _ => by kernel_rfl
  have a3 : ∀ w : World, (Instr.typeAssert (.iface 93 (.agg #[.int .i64 s, .int .i64 q, .int .i64 n, .bool hS, .int .i64 hH, .int .i64 hL, .int .i64 t])) 48 76 true).run Tryd.prog w = .ok (.tuple #[.agg #[.int .i64 0, .int .i64 0, .int .i64 0, .bool false, .int .i64 0, .int .i64 0, .int .i64 0, .int .i64 0], .bool false]) w := fun _ => by kernel_rfl
  have a4 : ∀ w : World, (Instr.typeAssert (.iface 93 (.agg #[.int .i64 s, .int .i64 q, .int .i64 n, .bool hS, .int .i64 hH, .int .i64 hL, .int .i64 t])) 48 80 true).run Tryd.prog w = .ok (.tuple #[.agg #[.int .i64 0, .int .i64 0, .int .i64 0, .bool false, .int .i64 0, .int .i64 0, .int .i64 0], .bool false]) w := fun _ => by kernel_rfl
  have a5 : ∀ w : World, (Instr.typeAssert (.iface 93 (.agg #[.int .i64 s, .int .i64 q, .int .i64 n, .bool hS, .int .i64 hH, .int .i64 hL, .int .i64 t])) 48 82 true).run Tryd.prog w = .ok (.tuple #[.agg #[.int .i64 0, .int .i64 0, .int .i64 0, .bool false, .int .i64 0, .int .i64 0, .int .i64 0, .string ⟨#[]⟩], .bool false]) w := fun _ => by kernel_rfl
  have a6 : ∀ w : World, (Instr.typeAssert (.iface 93 (.agg #[.int .i64 s, .int .i64 q, .int .i64 n, .bool hS, .int .i64 hH, .int .i64 hL, .int .i64 t])) 48 84 true).run Tryd.prog w = .ok (.tuple #[.agg #[.int .i64 0, .int .i64 0, .int .i64 0, .bool false, .int .i64 0, .int .i64 0, .int .i64 0, .string ⟨#[]⟩], .bool false]) w := fun _ => by kernel_rfl
  have a7 : ∀ w : World, (Instr.typeAssert (.iface 93 (.agg #[.int .i64 s, .int .i64 q, .int .i64 n, .bool hS, .int .i64 hH, .int .i64 hL, .int .i64 t])) 48 86 true).run Tryd.prog w = .ok (.tuple #[.agg #[.int .i64 0, .int .i64 0, .int .i64 0, .bool false, .int .i64 0, .int .i64 0, .int .i64 0, .string ⟨#[]⟩, .int .i64 0], .bool false]) w := fun _ => by kernel_rfl
  have a8 : ∀ w : World, (Instr.typeAssert (.iface 93 (.agg #[.int .i64 s, .int .i64 q, .int .i64 n, .bool hS, .int .i64 hH, .int .i64 hL, .int .i64 t])) 48 88 true).run Tryd.prog w = .ok (.tuple #[.agg #[.int .i64 0, .int .i64 0, .int .i64 0, .bool false, .int .i64 0, .int .i64 0, .string ⟨#[]⟩, .int .i64 0], .bool false]) w := fun _ => by kernel_rfl
  have a9 : ∀ w : World, (Instr.typeAssert (.iface 93 (.agg #[.int .i64 s, .int .i64 q, .int .i64 n, .bool hS, .int .i64 hH, .int .i64 hL, .int .i64 t])) 48 91 true).run Tryd.prog w = .ok (.tuple #[.agg #[.int .i64 0, .int .i64 0, .int .i64 0, .bool false, .int .i64 0, .int .i64 0, .int .i64 0, .int .i64 0], .bool false]) w := fun _ => by kernel_rfl
  have a10 : ∀ w : World, (Instr.typeAssert (.iface 93 (.agg #[.int .i64 s, .int .i64 q, .int .i64 n, .bool hS, .int .i64 hH, .int .i64 hL, .int .i64 t])) 48 93 true).run Tryd.prog w = .ok (.tuple #[.agg #[.int .i64 s, .int .i64 q, .int .i64 n, .bool hS, .int .i64 hH, .int .i64 hL, .int .i64 t], .bool true]) w := fun _ => by kernel_rfl
  have CS := hidP (fun w (h : Tabs w) => sessionField_any s HI.out.s w h)
  have CQ := hidP (fun w (h : Tabs w) => seqField_any q HI.out.q w h)
  have CN := hidP (fun w (h : Tabs w) => nowField_any n HI.out.n w h)
  have CH := hidP (fun w (h : Tabs w) => hostField_any hS hH hL TH HTH.out.1 HTH.out.2 w h)
  have CT := hidP (fun w (h : Tabs w) => tokenField_any t HI.out.t w h)
  have CW := hidP (fun g m bs w h e1 e2 e3 => with_any s q n HI.out.s HI.out.q HI.out.n g m bs w h e1 e2 e3)
  generalize fT ⟨#[115, 101, 115, 115, 105, 111, 110]⟩ s = TS at *
  generalize rB 1 s 1000000 = rS at *
  generalize fT ⟨#[115, 101, 113]⟩ q = TQ at *
  generalize rB 1 q 1000000 = rQ at *
  generalize fT ⟨#[110, 111, 119]⟩ n = TN at *
  generalize rB 0 n 1000000000 = rN at *
  generalize hT TH = TH at *
  generalize okB hS hH hL = rH at *
  generalize fT ⟨#[116, 111, 107, 101, 110]⟩ t = TT at *
  generalize rB 1 t 1000000000 = rT at *
  clear HI HTH
  go_enter Tryd.func24, Tryd.ntmps24
  go_wp2_with fail
  have u0 : (y.alloc (.cells #[.int .i64 s, .int .i64 q, .int .i64 n, .bool hS, .int .i64 hH, .int .i64 hL, .int .i64 t] 93)).cell? ⟨y.heap.size, 0, none⟩ = some (.int .i64 s) := by simp [go_sem]
  have u1 : (y.alloc (.cells #[.int .i64 s, .int .i64 q, .int .i64 n, .bool hS, .int .i64 hH, .int .i64 hL, .int .i64 t] 93)).cell? ⟨y.heap.size, 1, none⟩ = some (.int .i64 q) := by simp [go_sem]
  have u2 : (y.alloc (.cells #[.int .i64 s, .int .i64 q, .int .i64 n, .bool hS, .int .i64 hH, .int .i64 hL, .int .i64 t] 93)).cell? ⟨y.heap.size, 2, none⟩ = some (.int .i64 n) := by simp [go_sem]
  have u3 : (y.alloc (.cells #[.int .i64 s, .int .i64 q, .int .i64 n, .bool hS, .int .i64 hH, .int .i64 hL, .int .i64 t] 93)).cell? ⟨y.heap.size, 3, none⟩ = some (.bool hS) := by simp [go_sem]
  have u4 : (y.alloc (.cells #[.int .i64 s, .int .i64 q, .int .i64 n, .bool hS, .int .i64 hH, .int .i64 hL, .int .i64 t] 93)).cell? ⟨y.heap.size, 4, none⟩ = some (.int .i64 hH) := by simp [go_sem]
  have u5 : (y.alloc (.cells #[.int .i64 s, .int .i64 q, .int .i64 n, .bool hS, .int .i64 hH, .int .i64 hL, .int .i64 t] 93)).cell? ⟨y.heap.size, 5, none⟩ = some (.int .i64 hL) := by simp [go_sem]
  have u6 : (y.alloc (.cells #[.int .i64 s, .int .i64 q, .int .i64 n, .bool hS, .int .i64 hH, .int .i64 hL, .int .i64 t] 93)).cell? ⟨y.heap.size, 6, none⟩ = some (.int .i64 t) := by simp [go_sem]
  have uL : y.heap.size < (y.alloc (.cells #[.int .i64 s, .int .i64 q, .int .i64 n, .bool hS, .int .i64 hH, .int .i64 hL, .int .i64 t] 93)).heap.size := by simp
  have HU := hidP ((Below.refl y.heap.size y).alloc (Nat.le_refl _) (.cells #[.int .i64 s, .int .i64 q, .int .i64 n, .bool hS, .int .i64 hH, .int .i64 hL, .int .i64 t] 93))
  generalize y.alloc (.cells #[.int .i64 s, .int .i64 q, .int .i64 n, .bool hS, .int .i64 hH, .int .i64 hL, .int .i64 t] 93) = W1 at *
  have hU := HU.out.size
  have HSx : Hid (∀ x, Below W1.heap.size W1 x → (x.cell? ⟨y.heap.size, 0, none⟩ = some (.int .i64 s) ∧ x.cell? ⟨y.heap.size, 1, none⟩ = some (.int .i64 q) ∧ x.cell? ⟨y.heap.size, 2, none⟩ = some (.int .i64 n) ∧ x.cell? ⟨y.heap.size, 3, none⟩ = some (.bool hS) ∧ x.cell? ⟨y.heap.size, 4, none⟩ = some (.int .i64 hH) ∧ x.cell? ⟨y.heap.size, 5, none⟩ = some (.int .i64 hL) ∧ x.cell? ⟨y.heap.size, 6, none⟩ = some (.int .i64 t) ∧ Below W1.heap.size W1 x)) := hidP fun x h =>
    ⟨(h.cell uL).trans u0, (h.cell uL).trans u1, (h.cell uL).trans u2, (h.cell uL).trans u3, (h.cell uL).trans u4, (h.cell uL).trans u5, (h.cell uL).trans u6, h⟩
  refine wp_region_held_drew (S := (fun x => x.cell? ⟨y.heap.size, 0, none⟩ = some (.int .i64 s) ∧ x.cell? ⟨y.heap.size, 1, none⟩ = some (.int .i64 q) ∧ x.cell? ⟨y.heap.size, 2, none⟩ = some (.int .i64 n) ∧ x.cell? ⟨y.heap.size, 3, none⟩ = some (.bool hS) ∧ x.cell? ⟨y.heap.size, 4, none⟩ = some (.int .i64 hH) ∧ x.cell? ⟨y.heap.size, 5, none⟩ = some (.int .i64 hL) ∧ x.cell? ⟨y.heap.size, 6, none⟩ = some (.int .i64 t) ∧ Below W1.heap.size W1 x)) (by kernel_rfl) ?_ (fun hHeld => ?_)
  · try dsimp only
    exact HSx.out _ ((Below.refl _ _).drew)
  refine wpAnyH_take (i := 0) (oi := ⟨some 132, _, _, _, _, _⟩) (v := ?_) rfl (by kernel_rfl) (by kernel_rfl) (by kernel_rfl) (fun _ _ _ h => h) (Or.inl ⟨by rfl, ?_⟩) (by assumption) ?_
  rotate_left
  · intro w hSw
    try dsimp only at hSw
    go_simp
    try with_reducible rfl
  simp only [Act.put, List.setIfInBounds_toArray, List.set_cons_zero, List.set_cons_succ]
  refine wpAnyH_take (i := 1) (oi := ⟨some 133, _, _, _, _, _⟩) (v := ?_) rfl (by kernel_rfl) (by kernel_rfl) (by kernel_rfl) (fun _ _ _ h => h) (Or.inl ⟨by rfl, ?_⟩) (by assumption) ?_
  rotate_left
  · intro w hSw
    try dsimp only at hSw
    go_simp
    try with_reducible rfl
  simp only [Act.put, List.setIfInBounds_toArray, List.set_cons_zero, List.set_cons_succ]
  refine wpAnyH_take (i := 2) (oi := ⟨some 134, _, _, _, _, _⟩) (v := ?_) rfl (by kernel_rfl) (by kernel_rfl) (by kernel_rfl) (fun _ _ _ h => h) (Or.inl ⟨by rfl, ?_⟩) (by assumption) ?_
  rotate_left
  · intro w hSw
    try dsimp only at hSw
    go_simp
    try with_reducible rfl
  simp only [Act.put, List.setIfInBounds_toArray, List.set_cons_zero, List.set_cons_succ]
  refine wpAnyH_take (i := 3) (oi := ⟨some 135, _, _, _, _, _⟩) (v := ?_) rfl (by kernel_rfl) (by kernel_rfl) (by kernel_rfl) (fun _ _ _ h => h) (Or.inl ⟨by rfl, ?_⟩) (by assumption) ?_
  rotate_left
  · intro w hSw
    try dsimp only at hSw
    go_simp
    try with_reducible rfl
  simp only [Act.put, List.setIfInBounds_toArray, List.set_cons_zero, List.set_cons_succ]
  refine wpAnyH_take (i := 5) (oi := ⟨some 137, _, _, _, _, _⟩) (v := ?_) rfl (by kernel_rfl) (by kernel_rfl) (by kernel_rfl) (fun _ _ _ h => h) (Or.inl ⟨by rfl, ?_⟩) (by assumption) ?_
  rotate_left
  · intro w hSw
    try dsimp only at hSw
    go_simp
    try with_reducible rfl
  simp only [Act.put, List.setIfInBounds_toArray, List.set_cons_zero, List.set_cons_succ]
  refine wpAnyH_take (i := 6) (oi := ⟨some 138, _, _, _, _, _⟩) (v := ?_) rfl (by kernel_rfl) (by kernel_rfl) (by kernel_rfl) (fun _ _ _ h => h) (Or.inl ⟨by rfl, ?_⟩) (by assumption) ?_
  rotate_left
  · intro w hSw
    try dsimp only at hSw
    go_simp
    try with_reducible rfl
  simp only [Act.put, List.setIfInBounds_toArray, List.set_cons_zero, List.set_cons_succ]
  refine wpAnyH_ready (rs := [4]) (by kernel_rfl) (by simp) ?_
  refine AllReadyH.cons rfl (fun K hK => ?_) AllReadyH.nil
  go_simp
  go_wp2_with (first | (go_at_call 38; refine (CH.out _ (HT.out.below (HU.out.trans ((hHeld.2.2.2.2.2.2.2).mono hU)))).mono ?_; rintro e w2 ⟨rfl, hb2⟩; have b2 := (hHeld.2.2.2.2.2.2.2).trans (hb2.mono (hHeld.2.2.2.2.2.2.2).size)))
  refine hK.out _ _ ?_ (fun hHeld => ?_)
  · try dsimp only
    exact HSx.out _ b2
  clear hK K
  refine wpAnyH_ready (rs := [7]) (by kernel_rfl) (by simp) ?_
  refine AllReadyH.cons rfl (fun K hK => ?_) AllReadyH.nil
  go_simp
  go_wp2_with (first | (go_at_call 39; refine (CT.out _ (HT.out.below (HU.out.trans ((hHeld.2.2.2.2.2.2.2).mono hU)))).mono ?_; rintro e w3 ⟨rfl, hb3⟩; have b3 := (hHeld.2.2.2.2.2.2.2).trans (hb3.mono (hHeld.2.2.2.2.2.2.2).size)))
  refine hK.out _ _ ?_ (fun hHeld => ?_)
  · try dsimp only
    exact HSx.out _ b3
  clear hK K
  refine wpAnyH_ready (rs := [8]) (by kernel_rfl) (by simp) ?_
  refine AllReadyH.cons rfl (fun K hK => ?_) AllReadyH.nil
  go_simp
  have bA := (hHeld.2.2.2.2.2.2.2).alloc (hHeld.2.2.2.2.2.2.2).size (.cells #[.string TH, .bool rH, .string TT, .bool rT] 58)
  refine hK.out _ _ ?_ (fun hHeld => ?_)
  · try dsimp only
    exact HSx.out _ bA
  clear hK K
  refine wpAnyH_ready (rs := [9]) (by kernel_rfl) (by simp) ?_
  refine AllReadyH.cons rfl (fun K hK => ?_) AllReadyH.nil
  go_simp
  go_wp2_with (first | (go_at_call 33; refine (CW.out w3.heap.size 2 [(TH, rH), (TT, rT)] _ (HT.out.below (HU.out.trans ((hHeld.2.2.2.2.2.2.2).mono hU))) rfl (by omega) (own_manyG KF w3 0 58 [(TH, rH), (TT, rT)] #[.string TH, .bool rH, .string TT, .bool rT] rfl 2 rfl (by omega) (Nat.zero_le _)).row).mono ?_; rintro e w4 ⟨a9, c9, rfl, ho9, hb4⟩; have b4 := (hHeld.2.2.2.2.2.2.2).trans (hb4.mono (hHeld.2.2.2.2.2.2.2).size)))
  refine hK.out _ _ ?_ (fun hHeld => ?_)
  · try dsimp only
    exact HSx.out _ b4
  clear hK K
  refine wpAnyH_take (i := 10) (oi := ⟨some 2, _, _, _, _, _⟩) (v := ?_) rfl (by kernel_rfl) (by kernel_rfl) (by kernel_rfl) (fun _ _ _ h => h) (Or.inl ⟨by rfl, ?_⟩) (by assumption) ?_
  rotate_left
  · intro w hSw
    try dsimp only at hSw
    go_simp
    try with_reducible rfl
  simp only [Act.put, List.setIfInBounds_toArray]
  have HE := hidP (hHeld.2.2.2.2.2.2.2)
  refine wpAnyH_done (by kernel_rfl) ?_ _
  clear hHeld
  have hA := bA.size
  go_wp2_with fail
  go_ret
  exact ⟨a9, c9, by simp, ho9.mono (by simp; simp at hA; omega), HU.out.trans (HE.out.mono hU)⟩

end Go.Proofs.YtoadckdokdcppaaDoor
