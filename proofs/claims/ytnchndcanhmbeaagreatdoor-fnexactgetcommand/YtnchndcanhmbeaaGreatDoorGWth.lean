/-
  Rows of fields; the fields of a request, and behind them those that a kind has beside. The row that is handed back is new, nothing old turns.
-/
import Derived.Test.YtnchndcanhmbeaaGreatDoorGFld
namespace Go.Proofs.YtnchndcanhmbeaaGreatDoor
open Go.RowKit

def KF : Kd (ByteArray × Bool) := ⟨2, fun x => [.string x.1, .bool x.2], fun _ => rfl, fun x u h => by
  simp at h; rcases h with rfl | rfl <;> rfl⟩
theorem Tryz.tyF : GTy KF (.agg #[.string ⟨#[]⟩, .bool false]) 24 Tryz.prog 103 106 := ⟨Tryz.underlying103, by kernel_rfl, rfl, by omega⟩
theorem own_manyG {α : Type} (K : Kd α) (w : World) (B : Nat) (t : TypeId) (ps : List α) (cs : Array Value) (hcs : cs = (gflat K ps).toArray) (n : Nat) (hn : n = ps.length) (hl : n ≤ 1000) (hB : B ≤ w.heap.size) : OwnG K t (w.alloc (.cells cs t)) B (.slice (some ⟨w.heap.size, 0, none⟩) n n) ps := by
  subst hcs hn
  exact ⟨gflat_len K ps, Or.inr ⟨w.heap.size, ps.length, _, rfl, hB, heap_alloc_new w _, Nat.le_refl _, by unfold maxLen; omega, by simp [gflat_len], by rw [List.take_of_length_le (by simp [gflat_len])]⟩⟩

theorem below_ap7 {W1 w4 w7 : World} {o : Obj} {n c : Nat} (h : Below W1.heap.size W1 (w4.alloc o)) (hg : (w4.alloc o).grownBy w7 (Value.slice (some ⟨w4.heap.size, 0, none⟩) n c).ownBlock) (hs : W1.heap.size ≤ w4.heap.size) : Below W1.heap.size W1 w7 :=
  h.grown hg (by simp; omega) (fun k hk => by
    have : k = w4.heap.size := by simpa [Value.ownBlock] using hk.symm
    omega)

set_option maxRecDepth 10000 in
set_option maxHeartbeats 4000000 in
theorem with_any (s q n : Int) (hs : I6 s) (hq : I6 q) (hn : I6 n) (g m : Nat) (bs : List (ByteArray × Bool)) (y : World) (ht : Tabs y) (hm : m = bs.length) (hm9 : m ≤ 9) (hR : RowG KF y (some ⟨g, 0, none⟩) bs) :
    Calls Tryz.prog 75 #[.agg #[.int .i64 s, .int .i64 q, .int .i64 n], .slice (some ⟨g, 0, none⟩) m m] y fun e w' => ∃ a c, e = .returned (.slice a (3 + m) c) ∧ OwnG KF 106 w' y.heap.size (.slice a (3 + m) c) ([((fT ⟨#[115, 101, 115, 115, 105, 111, 110]⟩ s), (rB 1 s 1000000)), ((fT ⟨#[115, 101, 113]⟩ q), (rB 1 q 1000000)), ((fT ⟨#[110, 111, 119]⟩ n), (rB 0 n 1000000000))] ++ bs) ∧ Below y.heap.size y w' := by
  have H1 := hidP (fun w h => sessionField_any s hs w h)
  have H2 := hidP (fun w h => seqField_any q hq w h)
  have H3 := hidP (fun w h => nowField_any n hn w h)
  have HT := hidP ht
  have HR := hidP hR
  have HM := hidP hm
  clear hs hq hn ht hR hm
  generalize fT ⟨#[115, 101, 115, 115, 105, 111, 110]⟩ s = T0 at *
  generalize rB 1 s 1000000 = r0 at *
  generalize fT ⟨#[115, 101, 113]⟩ q = T1 at *
  generalize rB 1 q 1000000 = r1 at *
  generalize fT ⟨#[110, 111, 119]⟩ n = T2 at *
  generalize rB 0 n 1000000000 = r2 at *
  go_enter Tryz.func75, Tryz.ntmps75
  go_wp2_with fail
  have u0 : (y.alloc (.cells #[.int .i64 s, .int .i64 q, .int .i64 n] 118)).cell? ⟨y.heap.size, 0, none⟩ = some (.int .i64 s) := by simp [go_sem]
  have u1 : (y.alloc (.cells #[.int .i64 s, .int .i64 q, .int .i64 n] 118)).cell? ⟨y.heap.size, 1, none⟩ = some (.int .i64 q) := by simp [go_sem]
  have u2 : (y.alloc (.cells #[.int .i64 s, .int .i64 q, .int .i64 n] 118)).cell? ⟨y.heap.size, 2, none⟩ = some (.int .i64 n) := by simp [go_sem]
  have uL : y.heap.size < (y.alloc (.cells #[.int .i64 s, .int .i64 q, .int .i64 n] 118)).heap.size := by simp
  have HU := hidP ((Below.refl y.heap.size y).alloc (Nat.le_refl _) (.cells #[.int .i64 s, .int .i64 q, .int .i64 n] 118))
  generalize y.alloc (.cells #[.int .i64 s, .int .i64 q, .int .i64 n] 118) = W1 at *
  have hU := HU.out.size
  have HSx : Hid (∀ x, Below W1.heap.size W1 x → (x.cell? ⟨y.heap.size, 0, none⟩ = some (.int .i64 s) ∧ x.cell? ⟨y.heap.size, 1, none⟩ = some (.int .i64 q) ∧ x.cell? ⟨y.heap.size, 2, none⟩ = some (.int .i64 n) ∧ Below W1.heap.size W1 x)) := hidP fun x h =>
    ⟨(h.cell uL).trans u0, (h.cell uL).trans u1, (h.cell uL).trans u2, h⟩
  refine wp_region_held_drew (S := (fun x => x.cell? ⟨y.heap.size, 0, none⟩ = some (.int .i64 s) ∧ x.cell? ⟨y.heap.size, 1, none⟩ = some (.int .i64 q) ∧ x.cell? ⟨y.heap.size, 2, none⟩ = some (.int .i64 n) ∧ Below W1.heap.size W1 x)) (by kernel_rfl) ?_ (fun hHeld => ?_)
  · try dsimp only
    exact HSx.out _ ((Below.refl _ _).drew)
  refine wpAnyH_take (i := 0) (oi := ⟨some 5, _, _, _, _, _⟩) (v := ?_) rfl (by kernel_rfl) (by kernel_rfl) (by kernel_rfl) (fun _ _ _ h => h) (Or.inl ⟨by rfl, ?_⟩) (by assumption) ?_
  rotate_left
  · intro w hSw
    try dsimp only at hSw
    go_simp
    try with_reducible rfl
  simp only [Act.put, List.setIfInBounds_toArray, List.set_cons_zero, List.set_cons_succ]
  refine wpAnyH_take (i := 1) (oi := ⟨some 6, _, _, _, _, _⟩) (v := ?_) rfl (by kernel_rfl) (by kernel_rfl) (by kernel_rfl) (fun _ _ _ h => h) (Or.inl ⟨by rfl, ?_⟩) (by assumption) ?_
  rotate_left
  · intro w hSw
    try dsimp only at hSw
    go_simp
    try with_reducible rfl
  simp only [Act.put, List.setIfInBounds_toArray, List.set_cons_zero, List.set_cons_succ]
  refine wpAnyH_take (i := 3) (oi := ⟨some 8, _, _, _, _, _⟩) (v := ?_) rfl (by kernel_rfl) (by kernel_rfl) (by kernel_rfl) (fun _ _ _ h => h) (Or.inl ⟨by rfl, ?_⟩) (by assumption) ?_
  rotate_left
  · intro w hSw
    try dsimp only at hSw
    go_simp
    try with_reducible rfl
  simp only [Act.put, List.setIfInBounds_toArray, List.set_cons_zero, List.set_cons_succ]
  refine wpAnyH_take (i := 4) (oi := ⟨some 9, _, _, _, _, _⟩) (v := ?_) rfl (by kernel_rfl) (by kernel_rfl) (by kernel_rfl) (fun _ _ _ h => h) (Or.inl ⟨by rfl, ?_⟩) (by assumption) ?_
  rotate_left
  · intro w hSw
    try dsimp only at hSw
    go_simp
    try with_reducible rfl
  simp only [Act.put, List.setIfInBounds_toArray, List.set_cons_zero, List.set_cons_succ]
  refine wpAnyH_take (i := 6) (oi := ⟨some 11, _, _, _, _, _⟩) (v := ?_) rfl (by kernel_rfl) (by kernel_rfl) (by kernel_rfl) (fun _ _ _ h => h) (Or.inl ⟨by rfl, ?_⟩) (by assumption) ?_
  rotate_left
  · intro w hSw
    try dsimp only at hSw
    go_simp
    try with_reducible rfl
  simp only [Act.put, List.setIfInBounds_toArray, List.set_cons_zero, List.set_cons_succ]
  refine wpAnyH_take (i := 7) (oi := ⟨some 12, _, _, _, _, _⟩) (v := ?_) rfl (by kernel_rfl) (by kernel_rfl) (by kernel_rfl) (fun _ _ _ h => h) (Or.inl ⟨by rfl, ?_⟩) (by assumption) ?_
  rotate_left
  · intro w hSw
    try dsimp only at hSw
    go_simp
    try with_reducible rfl
  simp only [Act.put, List.setIfInBounds_toArray, List.set_cons_zero, List.set_cons_succ]
  refine wpAnyH_take (i := 10) (oi := ⟨some 15, _, _, _, _, _⟩) (v := ?_) rfl (by kernel_rfl) (by kernel_rfl) (by kernel_rfl) (fun _ _ _ h => h) (Or.inl ⟨by rfl, ?_⟩) (by assumption) ?_
  rotate_left
  · intro w hSw
    try dsimp only at hSw
    go_simp
    try with_reducible rfl
  simp only [Act.put, List.setIfInBounds_toArray, List.set_cons_zero, List.set_cons_succ]
  refine wpAnyH_ready (rs := [2]) (by kernel_rfl) (by simp) ?_
  refine AllReadyH.cons rfl (fun K hK => ?_) AllReadyH.nil
  go_simp
  go_wp2_with (first | (go_at_call 74; refine (H1.out _ (HT.out.below (HU.out.trans ((hHeld.2.2.2).mono hU)))).mono ?_; rintro e w2 ⟨rfl, hb2⟩; have b2 := (hHeld.2.2.2).trans (hb2.mono (hHeld.2.2.2).size)))
  refine hK.out _ _ ?_ (fun hHeld => ?_)
  · try dsimp only
    exact HSx.out _ b2
  clear hK K
  refine wpAnyH_ready (rs := [5]) (by kernel_rfl) (by simp) ?_
  refine AllReadyH.cons rfl (fun K hK => ?_) AllReadyH.nil
  go_simp
  go_wp2_with (first | (go_at_call 83; refine (H2.out _ (HT.out.below (HU.out.trans ((hHeld.2.2.2).mono hU)))).mono ?_; rintro e w3 ⟨rfl, hb3⟩; have b3 := (hHeld.2.2.2).trans (hb3.mono (hHeld.2.2.2).size)))
  refine hK.out _ _ ?_ (fun hHeld => ?_)
  · try dsimp only
    exact HSx.out _ b3
  clear hK K
  refine wpAnyH_ready (rs := [8]) (by kernel_rfl) (by simp) ?_
  refine AllReadyH.cons rfl (fun K hK => ?_) AllReadyH.nil
  go_simp
  go_wp2_with (first | (go_at_call 73; refine (H3.out _ (HT.out.below (HU.out.trans ((hHeld.2.2.2).mono hU)))).mono ?_; rintro e w4 ⟨rfl, hb4⟩; have b4 := (hHeld.2.2.2).trans (hb4.mono (hHeld.2.2.2).size)))
  refine hK.out _ _ ?_ (fun hHeld => ?_)
  · try dsimp only
    exact HSx.out _ b4
  clear hK K
  refine wpAnyH_ready (rs := [9]) (by kernel_rfl) (by simp) ?_
  refine AllReadyH.cons rfl (fun K hK => ?_) AllReadyH.nil
  go_simp
  have bA := (hHeld.2.2.2).alloc (hHeld.2.2.2).size (.cells #[.string T0, .bool r0, .string T1, .bool r1, .string T2, .bool r2] 106)
  refine hK.out _ _ ?_ (fun hHeld => ?_)
  · try dsimp only
    exact HSx.out _ bA
  clear hK K
  have b4s := b4.size
  have HO := hidP (own_manyG KF w4 y.heap.size 106 [(T0, r0), (T1, r1), (T2, r2)] #[.string T0, .bool r0, .string T1, .bool r1, .string T2, .bool r2] rfl 3 rfl (by omega) (by omega))
  refine wpAnyH_ready (rs := [11]) (by kernel_rfl) (by simp) ?_
  refine AllReadyH.cons rfl (fun K hK => ?_) AllReadyH.nil
  refine step_appG Tryz.tyF _ rfl (.tmp 14) (.tmp 15) 103 rfl y.heap.size (some ⟨w4.heap.size, 0, none⟩) 3 3 m [(T0, r0), (T1, r1), (T2, r2)] bs (.slice (some ⟨g, 0, none⟩) m m) rfl rfl HM.out HO.out rfl (src_rowG Tryz.tyF.1 m m (by show 0 < 2; omega) HM.out (HR.out.later (HU.out.trans (bA.mono hU))) (fun h => by cases h)) (by omega) (by simp; omega) ?_
  intro a7 c7 w7 ho7 hg7 ht7
  have HE7 := hidP (below_appG (HU.out.trans (bA.mono hU)) HO.out (by simp; omega) hg7)
  have b7 := below_ap7 bA hg7 b4s
  refine hK.out _ _ ?_ (fun hHeld => ?_)
  · try dsimp only
    exact HSx.out _ b7
  clear hK K
  refine wpAnyH_take (i := 12) (oi := ⟨some 4, _, _, _, _, _⟩) (v := ?_) rfl (by kernel_rfl) (by kernel_rfl) (by kernel_rfl) (fun _ _ _ h => h) (Or.inl ⟨by rfl, ?_⟩) (by assumption) ?_
  rotate_left
  · intro w hSw
    try dsimp only at hSw
    go_simp
    try with_reducible rfl
  simp only [Act.put, List.setIfInBounds_toArray]
  have HE := hidP (hHeld.2.2.2)
  refine wpAnyH_done (by kernel_rfl) ?_ _
  clear hHeld
  go_wp2_with fail
  go_ret
  exact ⟨a7, c7, by simp, ho7, HE7.out⟩

end Go.Proofs.YtnchndcanhmbeaaGreatDoor
