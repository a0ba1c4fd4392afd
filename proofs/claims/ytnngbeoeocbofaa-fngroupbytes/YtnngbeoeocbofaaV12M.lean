/-
  The program's Members of a group whose Ids are right: its set, and the set's keys in their order.
-/
import Derived.Test.YtnngbeoeocbofaaV12B
import Derived.Test.YtnngbeoeocbofaaShelf
import Derived.Maps.OwnSet
import Derived.Lib.SlKeysI
namespace Go.Proofs.Ytnngbeoeocbofaa
open Go.RowKit Go.Maps Go.Sort Go.Shelf

theorem Try.keyI : Keyed Try.prog 3 := int_keyed Try.underlying3
theorem Try.sortsA (m : Nat) : AnyZI.SortsIn Try.prog Try.sortedA_ren Fence.wide m :=
  ⟨fun blk off cap ss W hH hblk hsz => callsIn_wide.2 (AnyM.slices_Sort_int Try.sortA blk off cap ss W hH hblk hsz),
   fun p cap W => callsIn_wide.2 (AnyM.slices_Sort_int_none Try.sortA p cap W)⟩

/-- The row that the keys make: sorted. -/
def srtI (ss : List Int) : List Int := ss.mergeSort (fun x y => decide (x ≤ y))

set_option maxHeartbeats 1000000 in
theorem rising_any (b nn : Nat) (D0 : DataW Unit) (R : Value → Option (DataW Unit × List MemPlace)) (w : World) (hown : w.ownsMap Try.prog 3 R b nn D0) (hnn : nn ≤ 1000) :
    Calls Try.prog 42 #[.map (some b)] w fun e w' => ∃ (v : Value) (ss : List Int), e = .returned v ∧ ss.Perm (intKeys D0) ∧
      w'.ownsRow w.heap.size 3 1 v ss.length ((srtI ss).map encZ) ∧ Below w.heap.size w w' := by
  have hsz := hown.size_le
  have hmax : Maps.size D0 ≤ maxLen := by unfold maxLen; omega
  have hbytes : Maps.size D0 * 8 ≤ 140737488355328 := by omega
  refine (callsIn_wide (n := 6)).1 ?_
  have hbl := hown.lt
  have hseq : SeqGives Fence.wide 2 Try.prog 64 #[.pointer (some ⟨w.heap.size, 0, none⟩)] encZ (fun ss => ss.Perm (intKeys D0)) (Maps.size D0) (w.alloc (.cells #[.map (some b)] 55)) :=
    AnyZI.keys_gives (ρ := Try.keysA_ren) { Try.keysA with } Fence.wide _ trivial rfl (by omega) w.heap.size b nn D0 _ (by simp) (by simp) (by
      obtain ⟨es, clock, hb, Ft, hs, hD⟩ := hown
      exact ⟨es, clock, (Below.heap_alloc _ _ b hbl).trans hb, Ft, hs, hD⟩)
  have cK : ∀ mb W, CallsIn Fence.wide 5 Try.prog 57 #[.map mb] W fun e w' => e = .returned (.func (.func 64) #[] #[.pointer (some ⟨W.heap.size, 0, none⟩)]) ∧ w' = W.alloc (.cells #[.map mb] 55) := fun mb W => AnyZI.keys_in Try.keysA Fence.wide 5 trivial rfl mb W
  have cS := AnyZI.sorted_in Try.sortedA Fence.wide 5 trivial trivial trivial trivial rfl (by omega) (Try.sortsA _) (enters_of Try.func63 (by kernel_rfl) rfl) 64 #[.pointer (some ⟨w.heap.size, 0, none⟩)] trivial (enters_of Try.func64 (by kernel_rfl) rfl) _ _ hmax hbytes _ hseq
  change CallsIn _ _ Try.prog 56 _ _ _ at cS
  have hfK : Fence.wide.fn 57 := trivial
  have hfS : Fence.wide.fn 56 := trivial
  refine callsIn_of_wp Try.func42 rfl trivial ?_ rfl
  simp only [Try.ntmps42, List.size_toArray, List.length_cons, List.length_nil, Nat.reduceAdd, Nat.reduceSub, Array.replicate_succ, Array.replicate_zero, List.push_toArray, List.append_toArray, List.nil_append, List.cons_append]
  gi_wp2_with (first
    | (gi_at_call 57; refine (cK _ _).mono ?_; rintro e w' ⟨rfl, rfl⟩)
    | (gi_at_call 56; refine cS.mono ?_; rintro e w' ⟨v, ss, rfl, hS, hrow, hnil, hb⟩))
  go_ret
  exact ⟨v, ss, rfl, hS, ownsRow_base_a hrow (by simp), ((Below.refl _ w).alloc (Nat.le_refl _) _).trans (hb.mono (by simp))⟩

/-- The set's keys are these. -/
def HasS (D : DataW Unit) (xs : List Int) : Prop := ∀ x, Maps.has D (.int .i64 x) = decide (x ∈ xs)
theorem HasS.put {D : DataW Unit} {xs : List Int} (h : HasS D xs) (hD : IsMap D) (q : Int) (d : DataW Unit) : HasS (D.put (.int .i64 q) d) (xs ++ [q]) := fun x => by
  by_cases hx : x = q
  · subst hx
    rw [has_put_same hD (show WideAt.IsKeyLit (.int .i64 x) from trivial)]
    exact (decide_eq_true (by simp)).symm
  · rw [has_put_other (by intro e; injection e; contradiction), h x]
    exact decide_eq_decide.2 (by simp [hx])

theorem wf_id {q : Int} (h : 1 ≤ q ∧ q ≤ 7) : (Lit.int .i64 q).wf = true := by
  rcases seven h with rfl | rfl | rfl | rfl | rfl | rfl | rfl <;> rfl
theorem takeI {ps : List Int} {k : Nat} {q : Int} (h : ps[k]? = some q) : ps.take (k + 1) = ps.take k ++ [q] := by rw [List.take_add_one, h]; rfl

set_option maxRecDepth 100000 in
set_option maxHeartbeats 4000000 in
theorem setOf_any (g n1 c1 n2 c2 : Nat) (a1 a2 : Option Addr) (ps bs : List Int) (w : World) (h0 : w.cell? ⟨g, 0, none⟩ = some (.slice a1 n1 c1)) (h1 : w.cell? ⟨g, 1, none⟩ = some (.slice a2 n2 c2)) (hn1 : n1 = ps.length) (hn2 : n2 = bs.length) (hl1 : n1 ≤ 100) (hl2 : n2 ≤ 100)
    (hP : RowG KI w a1 ps) (hK : RowG KI w a2 bs) (hq1 : ∀ q ∈ ps, 1 ≤ q ∧ q ≤ 7) (hq2 : ∀ q ∈ bs, 1 ≤ q ∧ q ≤ 7) :
    Calls Try.prog 41 #[.slice (some ⟨g, 0, none⟩) 2 2] w fun e w' => e = .returned (.map (some w.heap.size)) ∧ (∃ D : DataW Unit, w'.ownsMap Try.prog 3 unitElem w.heap.size (n1 + n2) D ∧ HasS D (ps ++ bs)) ∧ Below w.heap.size w w' := by
  have hmm := @run_makeMap Try.prog
  have HP := hidP hP
  have HK := hidP hK
  have HN := hidP (And.intro hn1 hn2)
  have HQ1 := hidP hq1
  have HQ2 := hidP hq2
  have hgL : g < w.heap.size := World.block_lt_of_cell? w _ h0
  clear hP hK hn1 hn2 hq1 hq2
  go_enter Try.func41, Try.ntmps41
  go_wp2_with fail
  have m1 : (w.alloc (.map #[] 0)).ownsMap Try.prog 3 unitElem w.heap.size 0 (.map [] : DataW Unit) := World.ownsMap_made _ _ _ _
  have b1 : Below w.heap.size w (w.alloc (.map #[] 0)) := (Below.refl _ _).alloc (Nat.le_refl _) _
  have HM1 := hidP (And.intro m1 b1)
  have y0 := (b1.cell hgL).trans h0
  have HC := hidP h1
  generalize w.alloc (.map #[] 0) = W1 at *
  clear m1 b1 h0 h1
  refine wp_loop_rounds 3 ?_
  rw [rounds_succ]
  go_wp2_with fail
  go_loopw [7, 17] (fun _ t17 wr => ∃ (k : Nat) (D : DataW Unit), k ≤ n1 ∧ t17 = .int .i64 k ∧ wr.ownsMap Try.prog 3 unitElem w.heap.size k D ∧ HasS D (ps.take k) ∧ Below w.heap.size w wr) (fun _ t17 _ => n1 - (intOf t17).toNat)
  case atStart => exact ⟨0, _, Nat.zero_le _, rfl, HM1.out.1, fun x => rfl, HM1.out.2⟩
  case round =>
    obtain ⟨k, D, hk, rfl, hm, hs, hbel⟩ := hrel
    by_cases hlt : k < n1
    · obtain ⟨p, o, q, rfl, hp, hq, c0⟩ := rowI HP.out k (by rw [← HN.out.1]; exact hlt)
      have d0 := (hbel.cell hp).trans c0
      have h7 := HQ1.out q (List.mem_of_getElem? hq)
      have hkey : keyOf Try.prog 3 (.int .i64 q) = some (.int .i64 q) := keyOf_int_mk Try.underlying3 (wf_id h7)
      have HS := hidP (hs.put (hm.isMap) q (.agg []))
      have HT := hidP (takeI hq)
      have HM := hidP (And.intro hm hbel)
      clear c0 hq hs hm hbel
      go_wp2_with (at_mapUpdate; refine wpList_mapUpdate_own _ rfl _ _ _ 55 rfl 3 65 Try.keyI Try.underlying55 (unitElem (H := Unit)) w.heap.size k _ rfl HM.out.1 (by unfold maxLen; omega) _ _ _ rfl rfl hkey _ [] unitElem_mk ?_; intro w5 hown5 hgrow5)
      have HF := hidP (And.intro hown5 (Below.grown HM.out.2 hgrow5 HM.out.2.size (fun j hj => by cases hj; exact Nat.le_refl _)))
      clear hown5 hgrow5
      go_roundw
      case rel => exact ⟨k + 1, _, by omega, by go_num, HF.out.1, by rw [HT.out]; exact HS.out, HF.out.2⟩
      case measure => simp [intOf]; omega
    · have hkn : k = n1 := by omega
      subst hkn
      have HS := hidP (show HasS D ps from by rw [List.take_of_length_le (by have := HN.out.1; omega)] at hs; exact hs)
      have HM := hidP (And.intro hm hbel)
      obtain ⟨WR, rfl⟩ : ∃ WR, WR = wr := ⟨_, rfl⟩
      have z1 := (hbel.cell hgL).trans HC.out
      clear hs hm hbel
      go_wp2_with fail
      rw [rounds_succ]
      go_wp2_with fail
      go_loopw [7, 17] (fun _ t17 wr => ∃ (j : Nat) (D : DataW Unit), j ≤ n2 ∧ t17 = .int .i64 j ∧ wr.ownsMap Try.prog 3 unitElem w.heap.size (k + j) D ∧ HasS D (ps ++ bs.take j) ∧ Below w.heap.size w wr) (fun _ t17 _ => n2 - (intOf t17).toNat)
      case atStart => exact ⟨0, D, Nat.zero_le _, rfl, HM.out.1, by rw [List.take_zero, List.append_nil]; exact HS.out, HM.out.2⟩
      case round =>
        obtain ⟨j, D2, hj, rfl, hm, hs, hbel⟩ := hrel
        by_cases hlt2 : j < n2
        · obtain ⟨p, o, q, rfl, hp, hq, c0⟩ := rowI HK.out j (by rw [← HN.out.2]; exact hlt2)
          have d0 := (hbel.cell hp).trans c0
          have h7 := HQ2.out q (List.mem_of_getElem? hq)
          have hkey : keyOf Try.prog 3 (.int .i64 q) = some (.int .i64 q) := keyOf_int_mk Try.underlying3 (wf_id h7)
          have HS3 := hidP (hs.put (hm.isMap) q (.agg []))
          have HT := hidP (takeI hq)
          have HM3 := hidP (And.intro hm hbel)
          clear c0 hq hs hm hbel
          go_wp2_with (at_mapUpdate; refine wpList_mapUpdate_own _ rfl _ _ _ 55 rfl 3 65 Try.keyI Try.underlying55 (unitElem (H := Unit)) w.heap.size (k + j) _ rfl HM3.out.1 (by unfold maxLen; omega) _ _ _ rfl rfl hkey _ [] unitElem_mk ?_; intro w5 hown5 hgrow5)
          have HF := hidP (And.intro hown5 (Below.grown HM3.out.2 hgrow5 HM3.out.2.size (fun j hj => by cases hj; exact Nat.le_refl _)))
          clear hown5 hgrow5
          go_roundw
          case rel => exact ⟨j + 1, _, by omega, by go_num, HF.out.1, by rw [HT.out, ← List.append_assoc]; exact HS3.out, HF.out.2⟩
          case measure => simp [intOf]; omega
        · have hjn : j = n2 := by omega
          subst hjn
          have HS4 := hidP (show HasS D2 (ps ++ bs) from by rw [List.take_of_length_le (by have := HN.out.2; omega)] at hs; exact hs)
          have HM4 := hidP (And.intro hm hbel)
          clear hs hm hbel
          go_wp2_with fail
          rw [rounds_succ]
          go_wp2_with fail
          go_ret
          exact ⟨rfl, ⟨D2, HM4.out.1, HS4.out⟩, HM4.out.2⟩


end Go.Proofs.Ytnngbeoeocbofaa
