/-
  What getCommand_card needs, part 3.
-/
import Derived.Test.YtnchndcanhmbeaaGreatDoorZT1
import Derived.Test.YtnchndcanhmbeaaGreatDoorRows
import Derived.Deep.RegionHeld3
import Derived.Test.YtnchndcanhmbeaaGreatDoorCNum
import Derived.Test.YtnchndcanhmbeaaGreatDoorCApp
import Derived.Test.YtnchndcanhmbeaaGreatDoorCAdr
import Derived.Test.YtnchndcanhmbeaaGreatDoorPRow
import Derived.Deep.RegionWith
namespace Go.Proofs.YtnchndcanhmbeaaGreatDoor

theorem ready_un {ops : Array Oper} {md : Region.Mode} {listed : Array Bool} {i : Nat} (h : i ∈ Region.ready md ops listed) : listed.getD i true = false := by
  unfold Region.ready at h
  rw [List.mem_filter] at h
  have h2 := h.2
  rw [Bool.and_eq_true, Bool.not_eq_true'] at h2
  exact h2.1
theorem ready_lt {ops : Array Oper} {md : Region.Mode} {listed : Array Bool} {i : Nat} (h : i ∈ Region.ready md ops listed) : i < ops.size := by
  unfold Region.ready at h
  rw [List.mem_filter, List.mem_range] at h
  exact h.1
theorem ready_dep {ops : Array Oper} {md : Region.Mode} {listed : Array Bool} {i : Nat} (j : Nat) (h : i ∈ Region.ready md ops listed) (hd : ((ops[i]?).map fun o => o.after.any fun e => Region.binds md e && e.on == j).getD false = true) : listed.getD j false = true := by
  unfold Region.ready at h
  rw [List.mem_filter] at h
  have h2 := h.2
  rw [Bool.and_eq_true] at h2
  have h3 := h2.2
  cases ho : ops[i]? with
  | none => rw [ho] at hd; simp at hd
  | some o =>
    rw [ho] at hd h3
    simp only [Option.map_some, Option.getD_some] at hd h3
    rw [Array.any_eq_true] at hd
    obtain ⟨k, hk, hb⟩ := hd
    rw [Array.all_eq_true] at h3
    have h4 := h3 k hk
    rw [Bool.and_eq_true, beq_iff_eq] at hb
    rw [hb.1, hb.2] at h4
    simpa using h4
theorem ready_in {ops : Array Oper} {md : Region.Mode} {listed : Array Bool} {i : Nat} (hi : i < ops.size) (h : (!listed.getD i true && ((ops[i]?).map (·.after.all fun e => !Region.binds md e || listed.getD e.on false)).getD false) = true) : i ∈ Region.ready md ops listed := by
  unfold Region.ready
  rw [List.mem_filter, List.mem_range]
  exact ⟨hi, h⟩
def cntL : List Bool → Nat
  | [] => 0
  | true :: t => cntL t
  | false :: t => cntL t + 1
def cntF (l : Array Bool) : Nat := cntL l.toList
theorem cntL_set : ∀ (l : List Bool) (i : Nat), l[i]? = some false → cntL (l.set i true) + 1 = cntL l
  | [], _, h => by simp at h
  | b :: t, 0, h => by
      simp at h; subst h; rfl
  | b :: t, i + 1, h => by
      have := cntL_set t i (by simpa using h)
      cases b
      · show (cntL (t.set i true) + 1) + 1 = cntL t + 1; omega
      · exact this
theorem cntL_no : ∀ (l : List Bool) (i : Nat), l[i]? = some false → 0 < cntL l
  | [], _, h => by simp at h
  | b :: t, 0, h => by simp at h; subst h; exact Nat.succ_pos _
  | b :: t, i + 1, h => by
      have := cntL_no t i (by simpa using h)
      cases b
      · exact Nat.succ_pos _
      · exact this
theorem getD_at {l : Array Bool} {i : Nat} (h : l.getD i true = false) : l.toList[i]? = some false := by
  rw [Array.getD_eq_getD_getElem?] at h
  rw [Array.getElem?_toList]
  cases hx : l[i]? with
  | none => rw [hx] at h; simp at h
  | some b => rw [hx] at h; simp at h; rw [h]
theorem cnt_set {l : Array Bool} {i : Nat} (h : l.getD i true = false) : cntF (l.setIfInBounds i true) + 1 = cntF l := by
  unfold cntF
  rw [Array.toList_setIfInBounds]
  exact cntL_set _ _ (getD_at h)
theorem wpAnyH_inv {P : Program} {ops : Array Oper} {Q : Exit → Act → World → Prop} {md : Region.Mode} {S : World → Prop} (I : Array Bool → Act → World → Prop)
    (hstep : ∀ listed a w i, I listed a w → S w → i ∈ Region.ready md ops listed → wpOp P ops Q i (fun a' w' => S w' ∧ I (listed.setIfInBounds i true) a' w') a w)
    (hdone : ∀ listed a w, I listed a w → S w → Region.ready md ops listed = [] → Q .normal a w) :
    ∀ (fuel : Nat) (listed : Array Bool) (a : Act) (w : World), cntF listed ≤ fuel → I listed a w → S w → wpAnyH P md ops Q S fuel listed a w
  | 0, listed, a, w, hc, hI, hS => by
      have hr : Region.ready md ops listed = [] := by
        rw [List.eq_nil_iff_forall_not_mem]
        intro i hi
        have := cntL_no _ _ (getD_at (ready_un hi))
        unfold cntF at hc
        omega
      exact wpAnyH_done hr (hdone _ _ _ hI hS hr) 0
  | fuel + 1, listed, a, w, hc, hI, hS =>
      ⟨fun h0 => hdone _ _ _ hI hS h0, fun i hi => wpOp_mono (fun a' w' h => ⟨h.1, wpAnyH_inv I hstep hdone fuel _ a' w' (by have := cnt_set (ready_un hi); omega) h.2 h.1⟩) (hstep _ _ _ i hI hS hi)⟩
/-- The beginning: what is kept is said of the frame at hand. -/
theorem run_inv {P : Program} {ops : Array Oper} {Q : Exit → Act → World → Prop} {md : Region.Mode} {S : World → Prop} (J : Act → Array Bool → Act → World → Prop) {fuel : Nat} {listed : Array Bool} {A : Act} {w : World} (hc : cntF listed ≤ fuel) (hS : S w) (h0 : J A listed A w)
    (hstep : ∀ listed a w i, J A listed a w → S w → i ∈ Region.ready md ops listed → wpOp P ops Q i (fun a' w' => S w' ∧ J A (listed.setIfInBounds i true) a' w') a w)
    (hdone : ∀ listed a w, J A listed a w → S w → Region.ready md ops listed = [] → Q .normal a w) : wpAnyH P md ops Q S fuel listed A w :=
  wpAnyH_inv (J A) hstep hdone fuel listed A w hc h0 hS

end Go.Proofs.YtnchndcanhmbeaaGreatDoor
namespace Go.Proofs.YtnchndcanhmbeaaGreatDoor
open Go.RowKit

/-- The bytes of numbers, one behind the other. -/
def numsB (ns : List Int) : List Int := (ns.map fun n => numB (u64 n)).flatten
theorem numsB_at (ns : List Int) (k : Nat) (n : Int) (h : ns[k]? = some n) : numsB (ns.take (k + 1)) = numsB (ns.take k) ++ numB (u64 n) := by
  unfold numsB
  rw [List.take_add_one, h]
  simp
theorem numsB_all (ns : List Int) (k : Nat) (h : ns.length ≤ k) : numsB (ns.take k) = numsB ns := by rw [List.take_of_length_le h]
theorem numsB_len (ns : List Int) : (numsB ns).length ≤ 10 * ns.length := by
  induction ns with
  | nil => simp [numsB]
  | cons n t ih =>
    have h1 := numB_ten _ (u64_lt n)
    have e : numsB (n :: t) = numB (u64 n) ++ numsB t := by unfold numsB; simp
    rw [e, List.length_append, List.length_cons]; omega
theorem numsB_le (ns : List Int) (k : Nat) : (numsB (ns.take k)).length ≤ 10 * k := by
  have := numsB_len (ns.take k)
  have h2 : (ns.take k).length ≤ k := by rw [List.length_take]; omega
  omega
theorem at_lt {ns : List Int} {k : Nat} (h : k < ns.length) : ∃ n, ns[k]? = some n := ⟨ns[k], List.getElem?_eq_getElem h⟩

set_option maxRecDepth 10000 in
set_option maxHeartbeats 4000000 in
theorem putNums_any (q c m : Nat) (ns : List Int) (w : World) (hq : q < w.heap.size) (hm : m = ns.length) (h10 : m ≤ 10) (hc : ∀ j n, ns[j]? = some n → w.cell? ⟨q, j, none⟩ = some (.int .i64 n)) :
    Calls Tryz.prog 26 #[.slice (some ⟨q, 0, none⟩) m c] w fun e w' => ∃ a cap, e = .returned (.slice a (numsB ns).length cap) ∧ Own w' w.heap.size (.slice a (numsB ns).length cap) (numsB ns) ∧ Below w.heap.size w w' := by
  obtain ⟨i0, hi, hz0, hz1, hz2⟩ := info_parts Tryz.infoU8
  have HO : Hid (Own (w.alloc (.cells #[] 5)) w.heap.size (.slice (some ⟨w.heap.size, 0, none⟩) 0 0) []) := World.ownsRow_lit w #[] 0 (Nat.le_refl _) (by unfold maxLen; omega) (by simp)
  have HC := hid' hc
  have HM := hid' hm
  clear hc hm
  go_enter Tryz.func26, Tryz.ntmps26
  go_wp2
  go_loopw [3, 10] (fun t3 t10 wr => ∃ k : Nat, k ≤ m ∧ t10 = .int .i64 k ∧ Own wr w.heap.size t3 (numsB (ns.take k)) ∧ Below w.heap.size w wr) (fun _ t10 _ => m - (intOf t10).toNat)
  case atStart => exact ⟨0, Nat.zero_le _, rfl, HO.out, (Below.refl _ w).alloc (Nat.le_refl _) _⟩
  case round =>
    obtain ⟨k, hk, rfl, hown, hbel⟩ := hrel
    by_cases hlt : k < m
    · obtain ⟨n, hn⟩ := at_lt (ns := ns) (k := k) (by have := HM.out; omega)
      have hcc := (hbel.cell (p := ⟨q, k, none⟩) hq).trans (HC.out k n hn)
      have ub : 0 ≤ IntKind.u64.wrap n ∧ IntKind.u64.wrap n < 18446744073709551616 := by rw [IntKind.wrap_u64]; omega
      have HX : Hid (numsB (ns.take k) ++ numB (IntKind.u64.wrap n).toNat = numsB (ns.take (k + 1))) := (numsB_at ns k n hn).symm
      have HL : Hid ((numsB (ns.take (k + 1))).length ≤ 110) := hid' (by have := numsB_le ns (k + 1); omega)
      have HOw0 : Hid (Own _ w.heap.size _ (numsB (ns.take k))) := hown
      have HB0 : Hid (Below w.heap.size w _) := hbel
      generalize hZ : numsB (ns.take (k + 1)) = Z at *
      generalize numsB (ns.take k) = ys0 at *
      have HZ := hid' hZ
      clear hZ
      have k0 : (0 : Int) ≤ (k : Int) := by omega
      have k1 : (k : Int) < (m : Int) := by omega
      clear hown hbel hn
      go_wp2
      go_loopw [3, 6] (fun t3 t6 wr => ∃ (x : Int) (ys : List Int), t6 = .int .u64 x ∧ 0 ≤ x ∧ x < 18446744073709551616 ∧ Own wr w.heap.size t3 ys ∧ ys ++ numB x.toNat = Z ∧ Below w.heap.size w wr) (fun _ t6 _ => (intOf t6).toNat)
      case atStart => exact ⟨_, ys0, rfl, ub.1, ub.2, HOw0.out, HX.out, HB0.out⟩
      case round =>
        obtain ⟨x, ys, rfl, hx0, hx1, hown, heq, hbel⟩ := hrel
        have HE : Hid (ys ++ numB x.toNat = Z) := heq
        have hyl : ys.length ≤ 110 := by have := HL.out; rw [← heq, List.length_append] at this; omega
        have hwz := hbel.size
        have HB : Hid (Below w.heap.size w _) := hbel
        have HOw : Hid (Own _ w.heap.size _ ys) := hown
        clear heq hbel hown hcc
        by_cases hx : x < 128
        · have HN : Hid (ys ++ [x] = Z) := by unfold Hid; rw [← HE.out, numB_loI hx0 hx]
          go_wp2_with (at_builtin; refine wpList_append_lies _ rfl (.tmp 26) (.tmp 29) 29 rfl w.heap.size 5 i0 (.int .u8 0) 1 1 Tryz.underlying29 hi hz0 hz1 hz2 rfl (by decide) _ _ _ rfl (HOw.out.alloc _) ⟨_, 0, none⟩ 1 1 [.int .u8 x] rfl rfl (cell_one_new _ _ _) (one_one _) (by decide) (by unfold maxLen; omega) (by omega) (by simp; omega) _ (by first | rfl | simp) ?_; intro g cap w1 hown hgrow hat hgl)
          have O1 := own_snoc rfl hown
          have B1 : Below w.heap.size w w1 := below_app (HB.out.alloc hwz _) (HOw.out.alloc _) (by simp; omega) hgrow
          rw [HN.out] at O1
          have HO1 : Hid (Own w1 w.heap.size _ _) := O1
          have HB1 : Hid (Below w.heap.size w w1) := B1
          clear hown hgrow hat O1 B1
          go_wp2
          go_roundw
          case rel => exact ⟨k + 1, by omega, by go_num, by rw [HZ.out]; exact HO1.out, HB1.out⟩
          case measure => simp [intOf]; omega
        · have HN : Hid ((ys ++ [x % 128 + 128]) ++ numB (x / 128).toNat = Z) := by unfold Hid; rw [← HE.out, numB_hiI hx, List.append_assoc]; rfl
          have hor := or128 x hx0
          go_wp2_with (at_builtin; refine wpList_append_lies _ rfl (.tmp 18) (.tmp 22) 29 rfl w.heap.size 5 i0 (.int .u8 0) 1 1 Tryz.underlying29 hi hz0 hz1 hz2 rfl (by decide) _ _ _ rfl (HOw.out.alloc _) ⟨_, 0, none⟩ 1 1 [.int .u8 (x % 128 + 128)] rfl rfl (cell_one_new _ _ _) (one_one _) (by decide) (by unfold maxLen; omega) (by omega) (by simp; omega) _ (by first | rfl | simp) ?_; intro g cap w1 hown hgrow hat hgl)
          have O1 := own_snoc rfl hown
          have B1 : Below w.heap.size w w1 := below_app (HB.out.alloc hwz _) (HOw.out.alloc _) (by simp; omega) hgrow
          have HO1 : Hid (Own w1 w.heap.size _ _) := O1
          have HB1 : Hid (Below w.heap.size w w1) := B1
          clear hown hgrow hat O1 B1
          go_wp2
          go_roundw
          case rel => exact ⟨x / 128, _, rfl, by omega, by omega, HO1.out, HN.out, HB1.out⟩
          case measure => simp [intOf]; omega
    · have he := numsB_all ns k (by have := HM.out; omega)
      rw [he] at hown
      obtain ⟨a, cap, rfl, hby⟩ := hown.form
      have HO1 : Hid (Own _ w.heap.size _ _) := hown
      have HB1 : Hid (Below w.heap.size w _) := hbel
      have hkm : k = m := by omega
      clear hown hbel hby
      go_wp2
      go_ret
      exact ⟨a, cap, rfl, HO1.out, HB1.out⟩

set_option maxRecDepth 10000 in
set_option maxHeartbeats 4000000 in
theorem sNums_any (B q c m g L cap : Nat) (ys ns : List Int) (w : World) (hB : B ≤ w.heap.size) (hL : L = ys.length) (hL9 : L ≤ 10000000) (ho : Own w B (.slice (some ⟨g, 0, none⟩) L cap) ys) (hq : q < w.heap.size) (hqg : q ≠ g) (hm : m = ns.length) (h10 : m ≤ 10) (hc : ∀ j n, ns[j]? = some n → w.cell? ⟨q, j, none⟩ = some (.int .i64 n)) :
    Calls Tryz.prog 17 #[.slice (some ⟨g, 0, none⟩) L cap, .slice (some ⟨q, 0, none⟩) m c] w fun e w' => ∃ g' cap', e = .returned (.slice (some ⟨g', 0, none⟩) (ys ++ numsB ns).length cap') ∧ Own w' B (.slice (some ⟨g', 0, none⟩) (ys ++ numsB ns).length cap') (ys ++ numsB ns) ∧ (g' = g ∨ w.heap.size ≤ g') ∧ Below B w w' := by
  have HC := hid' hc
  have HM := hid' hm
  have HO0 : Hid (Own w B (.slice (some ⟨g, 0, none⟩) (ys ++ numsB (ns.take 0)).length cap) (ys ++ numsB (ns.take 0))) := hid' (by subst hL; simpa [numsB] using ho)
  have HL0 := hid' (show (ys ++ numsB (ns.take 0)).length = L by subst hL; simp [numsB])
  clear hc hm ho
  go_enter Tryz.func17, Tryz.ntmps17
  go_wp2_with fail
  go_loopw [0, 5] (fun t0 t5 wr => ∃ (k g' cap' : Nat), k ≤ m ∧ t5 = .int .i64 k ∧ t0 = .slice (some ⟨g', 0, none⟩) (ys ++ numsB (ns.take k)).length cap' ∧ Own wr B (.slice (some ⟨g', 0, none⟩) (ys ++ numsB (ns.take k)).length cap') (ys ++ numsB (ns.take k)) ∧ (g' = g ∨ w.heap.size ≤ g') ∧ (∀ j n, ns[j]? = some n → wr.cell? ⟨q, j, none⟩ = some (.int .i64 n)) ∧ w.heap.size ≤ wr.heap.size ∧ Below B w wr) (fun _ t5 _ => m - (intOf t5).toNat)
  case atStart => exact ⟨0, g, cap, Nat.zero_le _, rfl, by rw [HL0.out], HO0.out, Or.inl rfl, HC.out, Nat.le_refl _, Below.refl _ _⟩
  case round =>
    obtain ⟨k, g', cap', hk, rfl, rfl, hown, hg', hcc, hsz, hbel⟩ := hrel
    have HOw := hid' hown
    have HCC := hid' hcc
    have HB0 := hid' hbel
    have HG := hid' hg'
    clear hown hcc hbel hg'
    by_cases hlt : k < m
    · obtain ⟨n, hn⟩ := at_lt (ns := ns) (k := k) (by have := HM.out; omega)
      have hc1 := HCC.out k n hn
      have HX := hid' (show ys ++ numsB (ns.take (k + 1)) = (ys ++ numsB (ns.take k)) ++ numB (u64 n) by rw [numsB_at ns k n hn, List.append_assoc])
      have HLk := hid' (show (ys ++ numsB (ns.take k)).length ≤ L + 10 * k by rw [List.length_append]; have := numsB_le ns k; omega)
      have HT := hid' (numB_ten _ (u64_lt n))
      generalize ys ++ numsB (ns.take k) = Y at *
      have k0 : (0 : Int) ≤ (k : Int) := by omega
      have k1 : (k : Int) < (m : Int) := by omega
      clear hn
      go_wp2_with fail
      refine (sPutNum_any n _).mono ?_
      rintro e w2 ⟨a2, c2, rfl, o2, b2⟩
      have HO2 := hid' o2
      have HB2 := hid' b2
      have hBr : B ≤ w2.heap.size := by have := b2.size; omega
      clear o2 b2 hc1
      go_wp2_with (at_builtin; refine wpList_app _ rfl (.tmp 12) (.tmp 17) 29 rfl B g' Y.length cap' Y (numB (u64 n)) _ _ rfl rfl rfl (HOw.out.later HB2.out) rfl (src_byt (zs := numB (u64 n)) c2 HO2.out.bytA (by intro h; subst h; exact absurd HO2.out (fun h => by have := Own.head h (numB_pos _); simp at this))) (by have := HT.out; have := HLk.out; omega) hBr ?_; intro g3 c3 w3 hown hgr hat)
      have HO3 := hid' hown
      have HB3 := hid' (below_app (HB0.out.trans (HB2.out.mono (by omega))) (HOw.out.later HB2.out) hBr hgr)
      have HC3 : Hid (∀ j n, ns[j]? = some n → w3.cell? ⟨q, j, none⟩ = some (.int .i64 n)) := hid' (fun j n hj => by
        have h1 := (HB2.out.cell (p := ⟨q, j, none⟩) (by show q < _; omega)).trans (HCC.out j n hj)
        have h2 : q ≠ g' := by rcases HG.out with rfl | h2; exact hqg; omega
        rw [World.cell?_of_block (w := w2) (hgr.block q (World.block_lt_of_cell? w2 _ h1) (fun e => h2 (by simpa using e)))]
        exact h1)
      have hs3 := hgr.size
      have hs2 := HB2.out.size
      have HG3 : Hid (g3 = g ∨ w.heap.size ≤ g3) := hid' (by rcases hat with rfl | rfl; exact HG.out; right; omega)
      clear hown hgr hat
      go_wp2_with fail
      go_roundw
      case rel =>
        refine ⟨k + 1, g3, c3, by omega, by go_num, ?_, ?_, HG3.out, HC3.out, by omega, HB3.out⟩
        · rw [HX.out, List.length_append]
        · rw [HX.out, List.length_append]; exact HO3.out
      case measure => simp [intOf]; omega
    · have he := numsB_all ns k (by have := HM.out; omega)
      rw [he] at HOw ⊢
      go_wp2_with fail
      go_ret
      exact ⟨g', cap', rfl, HOw.out, HG.out, HB0.out⟩

end Go.Proofs.YtnchndcanhmbeaaGreatDoor
namespace Go.Proofs.YtnchndcanhmbeaaGreatDoor
open Go.RowKit

set_option maxRecDepth 10000 in
set_option maxHeartbeats 2000000 in
theorem putNums_one (q c : Nat) (n : Int) (w : World) (hq : q < w.heap.size) (hc : w.cell? ⟨q, 0, none⟩ = some (.int .i64 n)) :
    Calls Tryz.prog 26 #[.slice (some ⟨q, 0, none⟩) 1 c] w fun e w' => ∃ a cap, e = .returned (.slice a (numB (u64 n)).length cap) ∧ Own w' w.heap.size (.slice a (numB (u64 n)).length cap) (numB (u64 n)) ∧ Below w.heap.size w w' := by
  obtain ⟨i0, hi, hz0, hz1, hz2⟩ := info_parts Tryz.infoU8
  have HT : Hid ((numB (u64 n)).length ≤ 10) := numB_ten _ (u64_lt n)
  have ub : 0 ≤ IntKind.u64.wrap n ∧ IntKind.u64.wrap n < 18446744073709551616 := by rw [IntKind.wrap_u64]; omega
  unfold u64 at HT ⊢
  have HO : Hid (Own (w.alloc (.cells #[] 5)) w.heap.size (.slice (some ⟨w.heap.size, 0, none⟩) 0 0) []) := World.ownsRow_lit w #[] 0 (Nat.le_refl _) (by unfold maxLen; omega) (by simp)
  generalize hX : numB (IntKind.u64.wrap n).toNat = Z at HT ⊢
  have HX : Hid (numB (IntKind.u64.wrap n).toNat = Z) := hX
  have HC : Hid (w.cell? ⟨q, 0, none⟩ = some (.int .i64 n)) := hc
  clear hX hc
  go_enter Tryz.func26, Tryz.ntmps26
  go_wp2
  go_loopw [3, 10] (fun t3 t10 wr => (t10 = .int .i64 0 ∧ t3 = .slice (some ⟨w.heap.size, 0, none⟩) 0 0 ∧ wr = w.alloc (.cells #[] 5)) ∨ (t10 = .int .i64 1 ∧ Own wr w.heap.size t3 Z ∧ Below w.heap.size w wr)) (fun _ t10 _ => (1 - intOf t10).toNat)
  case atStart => exact Or.inl ⟨rfl, rfl, rfl⟩
  case round =>
    rcases hrel with ⟨rfl, rfl, rfl⟩ | ⟨rfl, hown, hbel⟩
    · have hcc : (w.alloc (.cells #[] 5)).cell? ⟨q, 0, none⟩ = some (.int .i64 n) := (((Below.refl _ w).alloc (Nat.le_refl _) _).cell (p := ⟨q, 0, none⟩) hq).trans HC.out
      go_wp2
      go_loopw [3, 6] (fun t3 t6 wr => ∃ (x : Int) (ys : List Int), t6 = .int .u64 x ∧ 0 ≤ x ∧ x < 18446744073709551616 ∧ Own wr w.heap.size t3 ys ∧ ys ++ numB x.toNat = Z ∧ Below w.heap.size w wr) (fun _ t6 _ => (intOf t6).toNat)
      case atStart => exact ⟨_, [], rfl, ub.1, ub.2, HO.out, HX.out, (Below.refl _ w).alloc (Nat.le_refl _) _⟩
      case round =>
        obtain ⟨x, ys, rfl, hx0, hx1, hown, heq, hbel⟩ := hrel
        have HE : Hid (ys ++ numB x.toNat = Z) := heq
        have hyl : ys.length ≤ 10 := by have := HT.out; rw [← heq, List.length_append] at this; omega
        have hwz : w.heap.size ≤ wr.heap.size := hbel.size
        have HB : Hid (Below w.heap.size w wr) := hbel
        have HOw : Hid (Own wr w.heap.size _ ys) := hown
        clear heq hbel hown hcc
        by_cases hx : x < 128
        · have HN : Hid (ys ++ [x] = Z) := by unfold Hid; rw [← HE.out, numB_loI hx0 hx]
          go_wp2_with (at_builtin; refine wpList_append_lies _ rfl (.tmp 26) (.tmp 29) 29 rfl w.heap.size 5 i0 (.int .u8 0) 1 1 Tryz.underlying29 hi hz0 hz1 hz2 rfl (by decide) _ _ _ rfl (HOw.out.alloc _) ⟨wr.heap.size, 0, none⟩ 1 1 [.int .u8 x] rfl rfl (cell_one_new _ _ _) (one_one _) (by decide) (by unfold maxLen; omega) (by omega) (by simp; omega) (wr.heap.size + 1) (by simp) ?_; intro g cap w1 hown hgrow hat hgl)
          have O1 := own_snoc rfl hown
          have B1 : Below w.heap.size w w1 := below_app (HB.out.alloc hwz _) (HOw.out.alloc _) (by simp; omega) hgrow
          rw [HN.out] at O1
          have HO1 : Hid (Own w1 w.heap.size _ _) := O1
          have HB1 : Hid (Below w.heap.size w w1) := B1
          clear hown hgrow hat O1 B1
          go_wp2
          go_roundw
          case rel => exact Or.inr ⟨rfl, HO1.out, HB1.out⟩
          case measure => simp [intOf]
        · have HN : Hid ((ys ++ [x % 128 + 128]) ++ numB (x / 128).toNat = Z) := by unfold Hid; rw [← HE.out, numB_hiI hx, List.append_assoc]; rfl
          have hor := or128 x hx0
          go_wp2_with (at_builtin; refine wpList_append_lies _ rfl (.tmp 18) (.tmp 22) 29 rfl w.heap.size 5 i0 (.int .u8 0) 1 1 Tryz.underlying29 hi hz0 hz1 hz2 rfl (by decide) _ _ _ rfl (HOw.out.alloc _) ⟨wr.heap.size, 0, none⟩ 1 1 [.int .u8 (x % 128 + 128)] rfl rfl (cell_one_new _ _ _) (one_one _) (by decide) (by unfold maxLen; omega) (by omega) (by simp; omega) (wr.heap.size + 1) (by simp) ?_; intro g cap w1 hown hgrow hat hgl)
          have O1 := own_snoc rfl hown
          have B1 : Below w.heap.size w w1 := below_app (HB.out.alloc hwz _) (HOw.out.alloc _) (by simp; omega) hgrow
          have HO1 : Hid (Own w1 w.heap.size _ _) := O1
          have HB1 : Hid (Below w.heap.size w w1) := B1
          clear hown hgrow hat O1 B1
          go_wp2
          go_roundw
          case rel => exact ⟨x / 128, _, rfl, by omega, by omega, HO1.out, HN.out, HB1.out⟩
          case measure => simp [intOf]; omega
    · obtain ⟨a, cap, rfl, hby⟩ := hown.form
      have HO1 : Hid (Own _ w.heap.size _ Z) := hown
      have HB1 : Hid (Below w.heap.size w _) := hbel
      clear hown hbel hby
      go_wp2
      go_ret
      exact ⟨a, cap, rfl, HO1.out, HB1.out⟩

end Go.Proofs.YtnchndcanhmbeaaGreatDoor
namespace Go.Proofs.YtnchndcanhmbeaaGreatDoor
open Go.RowKit

/-- The bytes of a text. -/
def txtB (s : ByteArray) : List Int := numB (u64 (s.size : Int)) ++ bys s

set_option maxRecDepth 10000 in
set_option maxHeartbeats 2000000 in
theorem sPutText_any (s : ByteArray) (w : World) (hl : s.size ≤ 1048576) :
    Calls Tryz.prog 21 #[.string s] w fun e w' => ∃ a cap, e = .returned (.slice a (txtB s).length cap) ∧ Own w' w.heap.size (.slice a (txtB s).length cap) (txtB s) ∧ Below w.heap.size w w' := by
  have hten : (numB (u64 (s.size : Int))).length ≤ 10 := numB_ten _ (u64_lt _)
  have HBL : Hid ((bys s).length = s.size) := bys_len s
  go_enter Tryz.func21, Tryz.ntmps21
  go_wp2_with fail
  refine (sPutNum_any _ w).mono ?_
  rintro e w1 ⟨a, cap, rfl, ho, hbel⟩
  obtain ⟨g, rfl, hg1, hg2⟩ := ho.head (numB_pos _)
  have HB : Hid (Below w.heap.size w w1) := hbel
  have HO : Hid (Own w1 w.heap.size _ _) := ho
  have hz : w.heap.size ≤ w1.heap.size := hbel.size
  clear ho hbel
  go_wp2_with (at_builtin; refine wpList_app _ rfl (.tmp 5) (.tmp 6) 9 rfl w.heap.size g _ cap _ (bys s) _ _ rfl rfl rfl HO.out rfl (src_str s) (by have := HBL.out; omega) hz ?_; intro h c w2 hown hgr hat)
  have HB2 : Hid (Below w.heap.size w w2) := below_app HB.out HO.out hz hgr
  have HO2 : Hid (Own w2 w.heap.size _ _) := hown
  clear hown hgr hat
  go_wp2_with fail
  go_ret
  refine ⟨some ⟨h, 0, none⟩, c, ?_, ?_, HB2.out⟩
  · unfold txtB; rw [List.length_append]; rfl
  · unfold txtB; rw [List.length_append]; exact HO2.out

set_option maxRecDepth 10000 in
set_option maxHeartbeats 2000000 in
theorem iPutText_any (s : ByteArray) (w : World) (hl : s.size ≤ 1048576) :
    Calls Tryz.prog 28 #[.string s] w fun e w' => ∃ a cap, e = .returned (.slice a (txtB s).length cap) ∧ Own w' w.heap.size (.slice a (txtB s).length cap) (txtB s) ∧ Below w.heap.size w w' := by
  have hten : (numB (u64 (s.size : Int))).length ≤ 10 := numB_ten _ (u64_lt _)
  have HBL : Hid ((bys s).length = s.size) := bys_len s
  go_enter Tryz.func28, Tryz.ntmps28
  go_wp2_with fail
  refine (putNums_one w.heap.size 1 (s.size : Int) _ (by simp) (by simp [go_sem])).mono ?_
  rintro e w1 ⟨a, cap, rfl, ho, hbel⟩
  obtain ⟨g, rfl, hg1, hg2⟩ := ho.head (numB_pos _)
  have HB : Hid (Below w.heap.size w w1) := ((Below.refl _ w).alloc (Nat.le_refl _) _).trans (hbel.mono (by simp))
  have HO : Hid (Own w1 w.heap.size _ _) := ho.mono (by simp)
  have hz : w.heap.size ≤ w1.heap.size := HB.out.size
  clear ho hbel hg1
  go_wp2_with (at_builtin; refine wpList_app _ rfl (.tmp 6) (.tmp 7) 9 rfl w.heap.size g _ cap _ (bys s) _ _ rfl rfl rfl HO.out rfl (src_str s) (by have := HBL.out; omega) hz ?_; intro h c w2 hown hgr hat)
  have HB2 : Hid (Below w.heap.size w w2) := below_app HB.out HO.out hz hgr
  have HO2 : Hid (Own w2 w.heap.size _ _) := hown
  clear hown hgr hat
  go_wp2_with fail
  go_ret
  refine ⟨some ⟨h, 0, none⟩, c, ?_, ?_, HB2.out⟩
  · unfold txtB; rw [List.length_append]; rfl
  · unfold txtB; rw [List.length_append]; exact HO2.out

end Go.Proofs.YtnchndcanhmbeaaGreatDoor
namespace Go.Proofs.YtnchndcanhmbeaaGreatDoor
open Go.RowKit

/-- A row of numbers. -/
def IntRow (w : World) (v : Value) (ns : List Int) : Prop := ∃ g c, v = .slice (some ⟨g, 0, none⟩) ns.length c ∧ g < w.heap.size ∧ ∀ j n, ns[j]? = some n → w.cell? ⟨g, j, none⟩ = some (.int .i64 n)
/-- A row of bytes. -/
def BytRow (w : World) (v : Value) (zs : List Int) : Prop := ∃ a c, v = .slice a zs.length c ∧ Byt w a zs ∧ (a = none → c = 0)
theorem IntRow.later {w w' : World} {v : Value} {ns : List Int} (h : IntRow w v ns) (hb : Below w.heap.size w w') : IntRow w' v ns := by
  obtain ⟨g, c, rfl, hg, hc⟩ := h
  exact ⟨g, c, rfl, Nat.lt_of_lt_of_le hg hb.size, fun j n hj => (hb.cell (p := ⟨g, j, none⟩) hg).trans (hc j n hj)⟩
theorem BytRow.later {w w' : World} {v : Value} {zs : List Int} (h : BytRow w v zs) (hb : Below w.heap.size w w') : BytRow w' v zs := by
  obtain ⟨a, c, rfl, hy, hc⟩ := h
  exact ⟨a, c, rfl, hy.later hb, hc⟩
theorem own_cap {w : World} {B n c : Nat} {a : Option Addr} {zs : List Int} (h : Own w B (.slice a n c) zs) (ha : a = none) : c = 0 := by
  subst ha
  rcases h.2 with ⟨hv, _⟩ | ⟨g, cap', cur, hv, _⟩
  · simp at hv; exact hv.2
  · simp at hv
theorem BytRow.own {w : World} {B c : Nat} {a : Option Addr} {zs : List Int} (h : Own w B (.slice a zs.length c) zs) : BytRow w (.slice a zs.length c) zs := ⟨a, c, rfl, h.bytA, fun e => own_cap h e⟩
theorem irow4 (w : World) (t : TypeId) (x0 x1 x2 x3 : Int) : IntRow (w.alloc (.cells #[.int .i64 x0, .int .i64 x1, .int .i64 x2, .int .i64 x3] t)) (.slice (some ⟨w.heap.size, 0, none⟩) 4 4) [x0, x1, x2, x3] :=
  ⟨w.heap.size, 4, rfl, by simp, fun j n hj => by
    rcases j with _ | _ | _ | _ | j
    · simp at hj; subst hj; simp [go_sem]
    · simp at hj; subst hj; simp [go_sem]
    · simp at hj; subst hj; simp [go_sem]
    · simp at hj; subst hj; simp [go_sem]
    · simp at hj⟩
theorem irow2 (w : World) (t : TypeId) (x0 x1 : Int) : IntRow (w.alloc (.cells #[.int .i64 x0, .int .i64 x1] t)) (.slice (some ⟨w.heap.size, 0, none⟩) 2 2) [x0, x1] :=
  ⟨w.heap.size, 2, rfl, by simp, fun j n hj => by
    rcases j with _ | _ | j
    · simp at hj; subst hj; simp [go_sem]
    · simp at hj; subst hj; simp [go_sem]
    · simp at hj⟩
theorem alloc_below (w : World) (o : Obj) : Below w.heap.size w (w.alloc o) := (Below.refl _ _).alloc (Nat.le_refl _) o
theorem bx15 (w : World) (t : TypeId) (v0 v1 v2 v3 v4 v5 v6 v7 v8 v9 v10 v11 v12 v13 v14 : Value) : (w.alloc (.cells #[v0, v1, v2, v3, v4, v5, v6, v7, v8, v9, v10, v11, v12, v13, v14] t)).cell? ⟨w.heap.size, 0, none⟩ = some v0 ∧ (w.alloc (.cells #[v0, v1, v2, v3, v4, v5, v6, v7, v8, v9, v10, v11, v12, v13, v14] t)).cell? ⟨w.heap.size, 1, none⟩ = some v1 ∧ (w.alloc (.cells #[v0, v1, v2, v3, v4, v5, v6, v7, v8, v9, v10, v11, v12, v13, v14] t)).cell? ⟨w.heap.size, 2, none⟩ = some v2 ∧ (w.alloc (.cells #[v0, v1, v2, v3, v4, v5, v6, v7, v8, v9, v10, v11, v12, v13, v14] t)).cell? ⟨w.heap.size, 3, none⟩ = some v3 ∧ (w.alloc (.cells #[v0, v1, v2, v3, v4, v5, v6, v7, v8, v9, v10, v11, v12, v13, v14] t)).cell? ⟨w.heap.size, 4, none⟩ = some v4 ∧ (w.alloc (.cells #[v0, v1, v2, v3, v4, v5, v6, v7, v8, v9, v10, v11, v12, v13, v14] t)).cell? ⟨w.heap.size, 5, none⟩ = some v5 ∧ (w.alloc (.cells #[v0, v1, v2, v3, v4, v5, v6, v7, v8, v9, v10, v11, v12, v13, v14] t)).cell? ⟨w.heap.size, 6, none⟩ = some v6 ∧ (w.alloc (.cells #[v0, v1, v2, v3, v4, v5, v6, v7, v8, v9, v10, v11, v12, v13, v14] t)).cell? ⟨w.heap.size, 7, none⟩ = some v7 ∧ (w.alloc (.cells #[v0, v1, v2, v3, v4, v5, v6, v7, v8, v9, v10, v11, v12, v13, v14] t)).cell? ⟨w.heap.size, 8, none⟩ = some v8 ∧ (w.alloc (.cells #[v0, v1, v2, v3, v4, v5, v6, v7, v8, v9, v10, v11, v12, v13, v14] t)).cell? ⟨w.heap.size, 9, none⟩ = some v9 ∧ (w.alloc (.cells #[v0, v1, v2, v3, v4, v5, v6, v7, v8, v9, v10, v11, v12, v13, v14] t)).cell? ⟨w.heap.size, 10, none⟩ = some v10 ∧ (w.alloc (.cells #[v0, v1, v2, v3, v4, v5, v6, v7, v8, v9, v10, v11, v12, v13, v14] t)).cell? ⟨w.heap.size, 11, none⟩ = some v11 ∧ (w.alloc (.cells #[v0, v1, v2, v3, v4, v5, v6, v7, v8, v9, v10, v11, v12, v13, v14] t)).cell? ⟨w.heap.size, 12, none⟩ = some v12 ∧ (w.alloc (.cells #[v0, v1, v2, v3, v4, v5, v6, v7, v8, v9, v10, v11, v12, v13, v14] t)).cell? ⟨w.heap.size, 13, none⟩ = some v13 ∧ (w.alloc (.cells #[v0, v1, v2, v3, v4, v5, v6, v7, v8, v9, v10, v11, v12, v13, v14] t)).cell? ⟨w.heap.size, 14, none⟩ = some v14 := ⟨by simp [go_sem], by simp [go_sem], by simp [go_sem], by simp [go_sem], by simp [go_sem], by simp [go_sem], by simp [go_sem], by simp [go_sem], by simp [go_sem], by simp [go_sem], by simp [go_sem], by simp [go_sem], by simp [go_sem], by simp [go_sem], by simp [go_sem]⟩
structure PcF (k s q n : Int) (aS : Bool) (aH aL : BitVec 64) (ab b : Int) (hS : Bool) (hH hL : Int) (o : ByteArray) (t sp : Int) (Zf : List Int) (B : Nat) (b8 b9 b13 b19 b20 b23 b26 b31 b32 b33 b34 b35 : Bool) (v15 v16 v20 v26 v27 v30 v33 v38 v39 v40 v41 v2 : Value) (w : World) : Prop where
  f8 : b8 = true → IntRow w v15 [k, s, q, n]
  f9 : b9 = true → BytRow w v16 (numsB [k, s, q, n])
  f13 : b13 = true → BytRow w v20 (adrB aS aH.toInt aL.toInt)
  f19 : b19 = true → IntRow w v26 [ab, b]
  f20 : b20 = true → BytRow w v27 (numsB [ab, b])
  f23 : b23 = true → BytRow w v30 (adrB hS hH hL)
  f26 : b26 = true → BytRow w v33 (txtB o)
  f31 : b31 = true → IntRow w v38 [t, sp]
  f32 : b32 = true → BytRow w v39 (numsB [t, sp])
  f33 : b33 = true → ∃ g, v40 = .slice (some ⟨g, 0, none⟩) 6 6 ∧ g < w.heap.size ∧ Rws w g [numsB [k, s, q, n], adrB aS aH.toInt aL.toInt, numsB [ab, b], adrB hS hH hL, txtB o, numsB [t, sp]]
  f34 : b34 = true → ∃ g c, v41 = .slice (some ⟨g, 0, none⟩) Zf.length c ∧ Own w B (.slice (some ⟨g, 0, none⟩) Zf.length c) Zf
  f35 : b35 = true → b34 = true ∧ v2 = v41
theorem PcF.later {k s q n : Int} {aS : Bool} {aH aL : BitVec 64} {ab b : Int} {hS : Bool} {hH hL : Int} {o : ByteArray} {t sp : Int} {Zf : List Int} {B : Nat} {b8 b9 b13 b19 b20 b23 b26 b31 b32 b33 b34 b35 : Bool} {v15 v16 v20 v26 v27 v30 v33 v38 v39 v40 v41 v2 : Value} {w w' : World} (h : PcF k s q n aS aH aL ab b hS hH hL o t sp Zf B b8 b9 b13 b19 b20 b23 b26 b31 b32 b33 b34 b35 v15 v16 v20 v26 v27 v30 v33 v38 v39 v40 v41 v2 w) (hb : Below w.heap.size w w') : PcF k s q n aS aH aL ab b hS hH hL o t sp Zf B b8 b9 b13 b19 b20 b23 b26 b31 b32 b33 b34 b35 v15 v16 v20 v26 v27 v30 v33 v38 v39 v40 v41 v2 w' where
  f8 := fun e => (h.f8 e).later hb
  f9 := fun e => (h.f9 e).later hb
  f13 := fun e => (h.f13 e).later hb
  f19 := fun e => (h.f19 e).later hb
  f20 := fun e => (h.f20 e).later hb
  f23 := fun e => (h.f23 e).later hb
  f26 := fun e => (h.f26 e).later hb
  f31 := fun e => (h.f31 e).later hb
  f32 := fun e => (h.f32 e).later hb
  f33 := fun e => by
    obtain ⟨g, h1, h2, h3⟩ := h.f33 e
    exact ⟨g, h1, Nat.lt_of_lt_of_le h2 hb.size, h3.later h2 hb⟩
  f34 := fun e => by
    obtain ⟨g, c, h1, h2⟩ := h.f34 e
    exact ⟨g, c, h1, h2.later hb⟩
  f35 := h.f35

set_option maxRecDepth 20000 in
set_option maxHeartbeats 16000000 in
theorem iPut_yes (k s q n : Int) (aS : Bool) (aH aL : BitVec 64) (ab b : Int) (hS : Bool) (hH hL : Int) (o : ByteArray) (t sp : Int) (Zf : List Int) (hZf : [numsB [k, s, q, n], adrB aS aH.toInt aL.toInt, numsB [ab, b], adrB hS hH hL, txtB o, numsB [t, sp]].flatten = Zf) (ho : o.size ≤ 1048576) (w : World) (hr : ∀ W : World, Below w.heap.size w W → Calls Tryz.prog 24 #[.agg #[.int .i64 k, .int .i64 s, .int .i64 q, .int .i64 n, .bool aS, .int .i64 aH.toInt, .int .i64 aL.toInt, .int .i64 ab, .int .i64 b, .bool hS, .int .i64 hH, .int .i64 hL, .string o, .int .i64 t, .int .i64 sp]] W fun e w' => e = .returned (.bool true) ∧ Below W.heap.size W w') :
    Calls Tryz.prog 8 #[.agg #[.int .i64 k, .int .i64 s, .int .i64 q, .int .i64 n, .bool aS, .int .i64 aH.toInt, .int .i64 aL.toInt, .int .i64 ab, .int .i64 b, .bool hS, .int .i64 hH, .int .i64 hL, .string o, .int .i64 t, .int .i64 sp]] w fun e w' => ∃ g c, e = .returned (.slice (some ⟨g, 0, none⟩) Zf.length c) ∧ Own w' w.heap.size (.slice (some ⟨g, 0, none⟩) Zf.length c) Zf ∧ Below w.heap.size w w' := by
  have HR := hidP hr
  have HZf := hidP hZf
  have HZ : Hid (0 < ([numsB [k, s, q, n], adrB aS aH.toInt aL.toInt, numsB [ab, b], adrB hS hH hL, txtB o, numsB [t, sp]].flatten).length ∧ ([numsB [k, s, q, n], adrB aS aH.toInt aL.toInt, numsB [ab, b], adrB hS hH hL, txtB o, numsB [t, sp]].flatten).length ≤ 2000000) := hidP (by
    have h1 := numsB_len [k, s, q, n]
    have h2 := adrB_len aS aH.toInt aL.toInt
    have h3 := numsB_len [ab, b]
    have h4 := adrB_len hS hH hL
    have h5 : (txtB o).length ≤ 10 + o.size := by unfold txtB; rw [List.length_append, bys_len]; have := numB_ten _ (u64_lt (o.size : Int)); omega
    have h5' : 0 < (txtB o).length := by unfold txtB; rw [List.length_append]; have := numB_pos (u64 (o.size : Int)); omega
    have h6 := numsB_len [t, sp]
    simp only [List.flatten_cons, List.flatten_nil, List.length_append, List.length_nil, List.length_cons] at *
    omega)
  clear hr hZf
  go_enter Tryz.func8, Tryz.ntmps8
  go_wp2_with fail
  obtain ⟨x0, x1, x2, x3, x4, x5, x6, x7, x8, x9, x10, x11, x12, x13, x14⟩ := bx15 w 35 (.int .i64 k) (.int .i64 s) (.int .i64 q) (.int .i64 n) (.bool aS) (.int .i64 aH.toInt) (.int .i64 aL.toInt) (.int .i64 ab) (.int .i64 b) (.bool hS) (.int .i64 hH) (.int .i64 hL) (.string o) (.int .i64 t) (.int .i64 sp)
  have xB := hidP (alloc_below w (.cells #[.int .i64 k, .int .i64 s, .int .i64 q, .int .i64 n, .bool aS, .int .i64 aH.toInt, .int .i64 aL.toInt, .int .i64 ab, .int .i64 b, .bool hS, .int .i64 hH, .int .i64 hL, .string o, .int .i64 t, .int .i64 sp] 35))
  have xL : w.heap.size < (w.alloc (.cells #[.int .i64 k, .int .i64 s, .int .i64 q, .int .i64 n, .bool aS, .int .i64 aH.toInt, .int .i64 aL.toInt, .int .i64 ab, .int .i64 b, .bool hS, .int .i64 hH, .int .i64 hL, .string o, .int .i64 t, .int .i64 sp] 35)).heap.size := by simp
  generalize w.alloc (.cells #[.int .i64 k, .int .i64 s, .int .i64 q, .int .i64 n, .bool aS, .int .i64 aH.toInt, .int .i64 aL.toInt, .int .i64 ab, .int .i64 b, .bool hS, .int .i64 hH, .int .i64 hL, .string o, .int .i64 t, .int .i64 sp] 35) = W1 at *
  refine (HR.out _ xB.out).mono ?_
  rintro e W ⟨rfl, hb⟩
  have y0 := (hb.cell xL).trans x0
  have y1 := (hb.cell xL).trans x1
  have y2 := (hb.cell xL).trans x2
  have y3 := (hb.cell xL).trans x3
  have y4 := (hb.cell xL).trans x4
  have y5 := (hb.cell xL).trans x5
  have y6 := (hb.cell xL).trans x6
  have y7 := (hb.cell xL).trans x7
  have y8 := (hb.cell xL).trans x8
  have y9 := (hb.cell xL).trans x9
  have y10 := (hb.cell xL).trans x10
  have y11 := (hb.cell xL).trans x11
  have y12 := (hb.cell xL).trans x12
  have y13 := (hb.cell xL).trans x13
  have y14 := (hb.cell xL).trans x14
  have yL : w.heap.size < W.heap.size := Nat.lt_of_lt_of_le xL hb.size
  have HW := hidP (xB.out.trans (hb.mono xB.out.size))
  clear hb xB xL x0 x1 x2 x3 x4 x5 x6 x7 x8 x9 x10 x11 x12 x13 x14 HR
  go_wp2_with fail
  have HSx : Hid (∀ x, Below W.heap.size W x → (x.cell? ⟨w.heap.size, 0, none⟩ = some (.int .i64 k) ∧ x.cell? ⟨w.heap.size, 1, none⟩ = some (.int .i64 s) ∧ x.cell? ⟨w.heap.size, 2, none⟩ = some (.int .i64 q) ∧ x.cell? ⟨w.heap.size, 3, none⟩ = some (.int .i64 n) ∧ x.cell? ⟨w.heap.size, 4, none⟩ = some (.bool aS) ∧ x.cell? ⟨w.heap.size, 5, none⟩ = some (.int .i64 aH.toInt) ∧ x.cell? ⟨w.heap.size, 6, none⟩ = some (.int .i64 aL.toInt) ∧ x.cell? ⟨w.heap.size, 7, none⟩ = some (.int .i64 ab) ∧ x.cell? ⟨w.heap.size, 8, none⟩ = some (.int .i64 b) ∧ x.cell? ⟨w.heap.size, 9, none⟩ = some (.bool hS) ∧ x.cell? ⟨w.heap.size, 10, none⟩ = some (.int .i64 hH) ∧ x.cell? ⟨w.heap.size, 11, none⟩ = some (.int .i64 hL) ∧ x.cell? ⟨w.heap.size, 12, none⟩ = some (.string o) ∧ x.cell? ⟨w.heap.size, 13, none⟩ = some (.int .i64 t) ∧ x.cell? ⟨w.heap.size, 14, none⟩ = some (.int .i64 sp) ∧ Below W.heap.size W x)) := hidP fun x h =>
    ⟨(h.cell yL).trans y0, (h.cell yL).trans y1, (h.cell yL).trans y2, (h.cell yL).trans y3, (h.cell yL).trans y4, (h.cell yL).trans y5, (h.cell yL).trans y6, (h.cell yL).trans y7, (h.cell yL).trans y8, (h.cell yL).trans y9, (h.cell yL).trans y10, (h.cell yL).trans y11, (h.cell yL).trans y12, (h.cell yL).trans y13, (h.cell yL).trans y14, h⟩
  refine wp_region_held_drew (S := (fun x => x.cell? ⟨w.heap.size, 0, none⟩ = some (.int .i64 k) ∧ x.cell? ⟨w.heap.size, 1, none⟩ = some (.int .i64 s) ∧ x.cell? ⟨w.heap.size, 2, none⟩ = some (.int .i64 q) ∧ x.cell? ⟨w.heap.size, 3, none⟩ = some (.int .i64 n) ∧ x.cell? ⟨w.heap.size, 4, none⟩ = some (.bool aS) ∧ x.cell? ⟨w.heap.size, 5, none⟩ = some (.int .i64 aH.toInt) ∧ x.cell? ⟨w.heap.size, 6, none⟩ = some (.int .i64 aL.toInt) ∧ x.cell? ⟨w.heap.size, 7, none⟩ = some (.int .i64 ab) ∧ x.cell? ⟨w.heap.size, 8, none⟩ = some (.int .i64 b) ∧ x.cell? ⟨w.heap.size, 9, none⟩ = some (.bool hS) ∧ x.cell? ⟨w.heap.size, 10, none⟩ = some (.int .i64 hH) ∧ x.cell? ⟨w.heap.size, 11, none⟩ = some (.int .i64 hL) ∧ x.cell? ⟨w.heap.size, 12, none⟩ = some (.string o) ∧ x.cell? ⟨w.heap.size, 13, none⟩ = some (.int .i64 t) ∧ x.cell? ⟨w.heap.size, 14, none⟩ = some (.int .i64 sp) ∧ Below W.heap.size W x)) (by kernel_rfl) ?_ (fun hHeld => ?_)
  · try dsimp only
    exact HSx.out _ (Below.refl _ _).drew
  refine tkA 0 7 (v := ?_) rfl (by kernel_rfl) (fun _ _ _ h => h) (by rfl) ?_ (by assumption) ?_; rotate_left; · (intro w hSw; (try dsimp only at hSw); go_simp; try with_reducible rfl)
  simp only [pa]
  refine tkA 1 8 (v := ?_) rfl (by kernel_rfl) (fun _ _ _ h => h) (by rfl) ?_ (by assumption) ?_; rotate_left; · (intro w hSw; (try dsimp only at hSw); go_simp; try with_reducible rfl)
  simp only [pa]
  refine tkA 2 9 (v := ?_) rfl (by kernel_rfl) (fun _ _ _ h => h) (by rfl) ?_ (by assumption) ?_; rotate_left; · (intro w hSw; (try dsimp only at hSw); go_simp; try with_reducible rfl)
  simp only [pa]
  refine tkA 3 10 (v := ?_) rfl (by kernel_rfl) (fun _ _ _ h => h) (by rfl) ?_ (by assumption) ?_; rotate_left; · (intro w hSw; (try dsimp only at hSw); go_simp; try with_reducible rfl)
  simp only [pa]
  refine tkA 4 11 (v := ?_) rfl (by kernel_rfl) (fun _ _ _ h => h) (by rfl) ?_ (by assumption) ?_; rotate_left; · (intro w hSw; (try dsimp only at hSw); go_simp; try with_reducible rfl)
  simp only [pa]
  refine tkA 5 12 (v := ?_) rfl (by kernel_rfl) (fun _ _ _ h => h) (by rfl) ?_ (by assumption) ?_; rotate_left; · (intro w hSw; (try dsimp only at hSw); go_simp; try with_reducible rfl)
  simp only [pa]
  refine tkA 6 13 (v := ?_) rfl (by kernel_rfl) (fun _ _ _ h => h) (by rfl) ?_ (by assumption) ?_; rotate_left; · (intro w hSw; (try dsimp only at hSw); go_simp; try with_reducible rfl)
  simp only [pa]
  refine tkA 7 14 (v := ?_) rfl (by kernel_rfl) (fun _ _ _ h => h) (by rfl) ?_ (by assumption) ?_; rotate_left; · (intro w hSw; (try dsimp only at hSw); go_simp; try with_reducible rfl)
  simp only [pa]
  refine tkA 10 17 (v := ?_) rfl (by kernel_rfl) (fun _ _ _ h => h) (by rfl) ?_ (by assumption) ?_; rotate_left; · (intro w hSw; (try dsimp only at hSw); go_simp; try with_reducible rfl)
  simp only [pa]
  refine tkA 11 18 (v := ?_) rfl (by kernel_rfl) (fun _ _ _ h => h) (by rfl) ?_ (by assumption) ?_; rotate_left; · (intro w hSw; (try dsimp only at hSw); go_simp; try with_reducible rfl)
  simp only [pa]
  refine tkA 12 19 (v := ?_) rfl (by kernel_rfl) (fun _ _ _ h => h) (by rfl) ?_ (by assumption) ?_; rotate_left; · (intro w hSw; (try dsimp only at hSw); go_simp; try with_reducible rfl)
  simp only [pa]
  refine tkA 14 21 (v := ?_) rfl (by kernel_rfl) (fun _ _ _ h => h) (by rfl) ?_ (by assumption) ?_; rotate_left; · (intro w hSw; (try dsimp only at hSw); go_simp; try with_reducible rfl)
  simp only [pa]
  refine tkA 15 22 (v := ?_) rfl (by kernel_rfl) (fun _ _ _ h => h) (by rfl) ?_ (by assumption) ?_; rotate_left; · (intro w hSw; (try dsimp only at hSw); go_simp; try with_reducible rfl)
  simp only [pa]
  refine tkA 16 23 (v := ?_) rfl (by kernel_rfl) (fun _ _ _ h => h) (by rfl) ?_ (by assumption) ?_; rotate_left; · (intro w hSw; (try dsimp only at hSw); go_simp; try with_reducible rfl)
  simp only [pa]
  refine tkA 17 24 (v := ?_) rfl (by kernel_rfl) (fun _ _ _ h => h) (by rfl) ?_ (by assumption) ?_; rotate_left; · (intro w hSw; (try dsimp only at hSw); go_simp; try with_reducible rfl)
  simp only [pa]
  refine tkA 18 25 (v := ?_) rfl (by kernel_rfl) (fun _ _ _ h => h) (by rfl) ?_ (by assumption) ?_; rotate_left; · (intro w hSw; (try dsimp only at hSw); go_simp; try with_reducible rfl)
  simp only [pa]
  refine tkA 21 28 (v := ?_) rfl (by kernel_rfl) (fun _ _ _ h => h) (by rfl) ?_ (by assumption) ?_; rotate_left; · (intro w hSw; (try dsimp only at hSw); go_simp; try with_reducible rfl)
  simp only [pa]
  refine tkA 22 29 (v := ?_) rfl (by kernel_rfl) (fun _ _ _ h => h) (by rfl) ?_ (by assumption) ?_; rotate_left; · (intro w hSw; (try dsimp only at hSw); go_simp; try with_reducible rfl)
  simp only [pa]
  refine tkA 24 31 (v := ?_) rfl (by kernel_rfl) (fun _ _ _ h => h) (by rfl) ?_ (by assumption) ?_; rotate_left; · (intro w hSw; (try dsimp only at hSw); go_simp; try with_reducible rfl)
  simp only [pa]
  refine tkA 25 32 (v := ?_) rfl (by kernel_rfl) (fun _ _ _ h => h) (by rfl) ?_ (by assumption) ?_; rotate_left; · (intro w hSw; (try dsimp only at hSw); go_simp; try with_reducible rfl)
  simp only [pa]
  refine tkA 27 34 (v := ?_) rfl (by kernel_rfl) (fun _ _ _ h => h) (by rfl) ?_ (by assumption) ?_; rotate_left; · (intro w hSw; (try dsimp only at hSw); go_simp; try with_reducible rfl)
  simp only [pa]
  refine tkA 28 35 (v := ?_) rfl (by kernel_rfl) (fun _ _ _ h => h) (by rfl) ?_ (by assumption) ?_; rotate_left; · (intro w hSw; (try dsimp only at hSw); go_simp; try with_reducible rfl)
  simp only [pa]
  refine tkA 29 36 (v := ?_) rfl (by kernel_rfl) (fun _ _ _ h => h) (by rfl) ?_ (by assumption) ?_; rotate_left; · (intro w hSw; (try dsimp only at hSw); go_simp; try with_reducible rfl)
  simp only [pa]
  refine tkA 30 37 (v := ?_) rfl (by kernel_rfl) (fun _ _ _ h => h) (by rfl) ?_ (by assumption) ?_; rotate_left; · (intro w hSw; (try dsimp only at hSw); go_simp; try with_reducible rfl)
  simp only [pa]
  have hWB : w.heap.size ≤ W.heap.size := HW.out.size
  clear y0 y1 y2 y3 y4 y5 y6 y7 y8 y9 y10 y11 y12 y13 y14
  refine run_inv (fun A listed a x => ∃ (b8 b9 b13 b19 b20 b23 b26 b31 b32 b33 b34 b35 : Bool) (v15 v16 v20 v26 v27 v30 v33 v38 v39 v40 v41 v2 : Value), listed = #[true, true, true, true, true, true, true, true, b8, b9, true, true, true, b13, true, true, true, true, true, b19, b20, true, true, b23, true, true, b26, true, true, true, true, b31, b32, b33, b34, b35] ∧ a = ((((((((((((A.put (some 15) v15).put (some 16) v16).put (some 20) v20).put (some 26) v26).put (some 27) v27).put (some 30) v30).put (some 33) v33).put (some 38) v38).put (some 39) v39).put (some 40) v40).put (some 41) v41).put (some 2) v2) ∧ PcF k s q n aS aH aL ab b hS hH hL o t sp Zf W.heap.size b8 b9 b13 b19 b20 b23 b26 b31 b32 b33 b34 b35 v15 v16 v20 v26 v27 v30 v33 v38 v39 v40 v41 v2 x) (by decide) hHeld ?_ ?_ ?_
  · refine ⟨false, false, false, false, false, false, false, false, false, false, false, false, undef, undef, undef, undef, undef, undef, undef, undef, undef, undef, undef, .slice none 0 0, rfl, by simp only [pa], ?_⟩
    exact { f8 := (fun e => by cases e), f9 := (fun e => by cases e), f13 := (fun e => by cases e), f19 := (fun e => by cases e), f20 := (fun e => by cases e), f23 := (fun e => by cases e), f26 := (fun e => by cases e), f31 := (fun e => by cases e), f32 := (fun e => by cases e), f33 := (fun e => by cases e), f34 := (fun e => by cases e), f35 := (fun e => by cases e) }
  · rintro listed a x i ⟨b8, b9, b13, b19, b20, b23, b26, b31, b32, b33, b34, b35, v15, v16, v20, v26, v27, v30, v33, v38, v39, v40, v41, v2, rfl, rfl, hF⟩ hHeld hi
    have HF := hidP hF
    have hun := ready_un hi
    have hlt := ready_lt hi
    have hSB := hidP (hHeld.2.2.2.2.2.2.2.2.2.2.2.2.2.2.2)
    clear hF
    match i, hlt with
    | 0, _ => exact absurd hun (by simp)
    | 1, _ => exact absurd hun (by simp)
    | 2, _ => exact absurd hun (by simp)
    | 3, _ => exact absurd hun (by simp)
    | 4, _ => exact absurd hun (by simp)
    | 5, _ => exact absurd hun (by simp)
    | 6, _ => exact absurd hun (by simp)
    | 7, _ => exact absurd hun (by simp)
    | 8, _ =>
      have e8 : b8 = false := hun
      subst e8
      refine wpOp_step rfl (fun K hK0 => ?_)
      have hK := (show Shut _ from hK0)
      clear hK0
      simp only [pa]
      go_simp
      refine hK.out _ _ ⟨?_, ?_⟩
      · exact HSx.out _ (hSB.out.trans ((alloc_below _ _).mono hSB.out.size))
      · refine ⟨true, b9, b13, b19, b20, b23, b26, b31, b32, b33, b34, b35, _, _, _, _, _, _, _, _, _, _, _, _, rfl, by simp only [pa]; rfl, ?_⟩
        exact { f8 := fun _ => irow4 _ _ k s q n, f9 := (PcF.later HF.out (alloc_below _ _)).f9, f13 := (PcF.later HF.out (alloc_below _ _)).f13, f19 := (PcF.later HF.out (alloc_below _ _)).f19, f20 := (PcF.later HF.out (alloc_below _ _)).f20, f23 := (PcF.later HF.out (alloc_below _ _)).f23, f26 := (PcF.later HF.out (alloc_below _ _)).f26, f31 := (PcF.later HF.out (alloc_below _ _)).f31, f32 := (PcF.later HF.out (alloc_below _ _)).f32, f33 := (PcF.later HF.out (alloc_below _ _)).f33, f34 := (PcF.later HF.out (alloc_below _ _)).f34, f35 := HF.out.f35 }
    | 9, _ =>
      have e9 : b9 = false := hun
      subst e9
      have e8 : b8 = true := ready_dep 8 hi (by kernel_rfl)
      subst e8
      obtain ⟨g, c, rfl, hg, hcs⟩ := HF.out.f8 rfl
      refine wpOp_step rfl (fun K hK0 => ?_)
      have hK := (show Shut _ from hK0)
      clear hK0
      simp only [pa]
      go_simp
      go_wp2_with (first | (go_at_call 26; refine (putNums_any g c 4 [k, s, q, n] _ hg rfl (by omega) hcs).mono ?_; rintro e x2 ⟨a2, c2, rfl, o2, b2⟩))
      refine hK.out _ _ ⟨?_, ?_⟩
      · exact HSx.out _ (hSB.out.trans ((b2).mono hSB.out.size))
      · refine ⟨true, true, b13, b19, b20, b23, b26, b31, b32, b33, b34, b35, _, _, _, _, _, _, _, _, _, _, _, _, rfl, by simp only [pa]; rfl, ?_⟩
        exact { f8 := (PcF.later HF.out (b2)).f8, f9 := fun _ => BytRow.own o2, f13 := (PcF.later HF.out (b2)).f13, f19 := (PcF.later HF.out (b2)).f19, f20 := (PcF.later HF.out (b2)).f20, f23 := (PcF.later HF.out (b2)).f23, f26 := (PcF.later HF.out (b2)).f26, f31 := (PcF.later HF.out (b2)).f31, f32 := (PcF.later HF.out (b2)).f32, f33 := (PcF.later HF.out (b2)).f33, f34 := (PcF.later HF.out (b2)).f34, f35 := HF.out.f35 }
    | 10, _ => exact absurd hun (by simp)
    | 11, _ => exact absurd hun (by simp)
    | 12, _ => exact absurd hun (by simp)
    | 13, _ =>
      have e13 : b13 = false := hun
      subst e13
      have e9 : b9 = true := ready_dep 9 hi (by kernel_rfl)
      subst e9
      refine wpOp_step rfl (fun K hK0 => ?_)
      have hK := (show Shut _ from hK0)
      clear hK0
      simp only [pa]
      go_simp
      go_wp2_with (first | (go_at_call 27; refine (iPutAddr_any aS (aH.toInt) (aL.toInt) _).mono ?_; rintro e x2 ⟨g2, c2, rfl, o2, b2⟩))
      refine hK.out _ _ ⟨?_, ?_⟩
      · exact HSx.out _ (hSB.out.trans ((b2).mono hSB.out.size))
      · refine ⟨b8, true, true, b19, b20, b23, b26, b31, b32, b33, b34, b35, _, _, _, _, _, _, _, _, _, _, _, _, rfl, by simp only [pa]; rfl, ?_⟩
        exact { f8 := (PcF.later HF.out (b2)).f8, f9 := (PcF.later HF.out (b2)).f9, f13 := fun _ => BytRow.own o2, f19 := (PcF.later HF.out (b2)).f19, f20 := (PcF.later HF.out (b2)).f20, f23 := (PcF.later HF.out (b2)).f23, f26 := (PcF.later HF.out (b2)).f26, f31 := (PcF.later HF.out (b2)).f31, f32 := (PcF.later HF.out (b2)).f32, f33 := (PcF.later HF.out (b2)).f33, f34 := (PcF.later HF.out (b2)).f34, f35 := HF.out.f35 }
    | 14, _ => exact absurd hun (by simp)
    | 15, _ => exact absurd hun (by simp)
    | 16, _ => exact absurd hun (by simp)
    | 17, _ => exact absurd hun (by simp)
    | 18, _ => exact absurd hun (by simp)
    | 19, _ =>
      have e19 : b19 = false := hun
      subst e19
      refine wpOp_step rfl (fun K hK0 => ?_)
      have hK := (show Shut _ from hK0)
      clear hK0
      simp only [pa]
      go_simp
      refine hK.out _ _ ⟨?_, ?_⟩
      · exact HSx.out _ (hSB.out.trans ((alloc_below _ _).mono hSB.out.size))
      · refine ⟨b8, b9, b13, true, b20, b23, b26, b31, b32, b33, b34, b35, _, _, _, _, _, _, _, _, _, _, _, _, rfl, by simp only [pa]; rfl, ?_⟩
        exact { f8 := (PcF.later HF.out (alloc_below _ _)).f8, f9 := (PcF.later HF.out (alloc_below _ _)).f9, f13 := (PcF.later HF.out (alloc_below _ _)).f13, f19 := fun _ => irow2 _ _ ab b, f20 := (PcF.later HF.out (alloc_below _ _)).f20, f23 := (PcF.later HF.out (alloc_below _ _)).f23, f26 := (PcF.later HF.out (alloc_below _ _)).f26, f31 := (PcF.later HF.out (alloc_below _ _)).f31, f32 := (PcF.later HF.out (alloc_below _ _)).f32, f33 := (PcF.later HF.out (alloc_below _ _)).f33, f34 := (PcF.later HF.out (alloc_below _ _)).f34, f35 := HF.out.f35 }
    | 20, _ =>
      have e20 : b20 = false := hun
      subst e20
      have e13 : b13 = true := ready_dep 13 hi (by kernel_rfl)
      subst e13
      have e19 : b19 = true := ready_dep 19 hi (by kernel_rfl)
      subst e19
      obtain ⟨g, c, rfl, hg, hcs⟩ := HF.out.f19 rfl
      refine wpOp_step rfl (fun K hK0 => ?_)
      have hK := (show Shut _ from hK0)
      clear hK0
      simp only [pa]
      go_simp
      go_wp2_with (first | (go_at_call 26; refine (putNums_any g c 2 [ab, b] _ hg rfl (by omega) hcs).mono ?_; rintro e x2 ⟨a2, c2, rfl, o2, b2⟩))
      refine hK.out _ _ ⟨?_, ?_⟩
      · exact HSx.out _ (hSB.out.trans ((b2).mono hSB.out.size))
      · refine ⟨b8, b9, true, true, true, b23, b26, b31, b32, b33, b34, b35, _, _, _, _, _, _, _, _, _, _, _, _, rfl, by simp only [pa]; rfl, ?_⟩
        exact { f8 := (PcF.later HF.out (b2)).f8, f9 := (PcF.later HF.out (b2)).f9, f13 := (PcF.later HF.out (b2)).f13, f19 := (PcF.later HF.out (b2)).f19, f20 := fun _ => BytRow.own o2, f23 := (PcF.later HF.out (b2)).f23, f26 := (PcF.later HF.out (b2)).f26, f31 := (PcF.later HF.out (b2)).f31, f32 := (PcF.later HF.out (b2)).f32, f33 := (PcF.later HF.out (b2)).f33, f34 := (PcF.later HF.out (b2)).f34, f35 := HF.out.f35 }
    | 21, _ => exact absurd hun (by simp)
    | 22, _ => exact absurd hun (by simp)
    | 23, _ =>
      have e23 : b23 = false := hun
      subst e23
      have e20 : b20 = true := ready_dep 20 hi (by kernel_rfl)
      subst e20
      refine wpOp_step rfl (fun K hK0 => ?_)
      have hK := (show Shut _ from hK0)
      clear hK0
      simp only [pa]
      go_simp
      go_wp2_with (first | (go_at_call 27; refine (iPutAddr_any hS (hH) (hL) _).mono ?_; rintro e x2 ⟨g2, c2, rfl, o2, b2⟩))
      refine hK.out _ _ ⟨?_, ?_⟩
      · exact HSx.out _ (hSB.out.trans ((b2).mono hSB.out.size))
      · refine ⟨b8, b9, b13, b19, true, true, b26, b31, b32, b33, b34, b35, _, _, _, _, _, _, _, _, _, _, _, _, rfl, by simp only [pa]; rfl, ?_⟩
        exact { f8 := (PcF.later HF.out (b2)).f8, f9 := (PcF.later HF.out (b2)).f9, f13 := (PcF.later HF.out (b2)).f13, f19 := (PcF.later HF.out (b2)).f19, f20 := (PcF.later HF.out (b2)).f20, f23 := fun _ => BytRow.own o2, f26 := (PcF.later HF.out (b2)).f26, f31 := (PcF.later HF.out (b2)).f31, f32 := (PcF.later HF.out (b2)).f32, f33 := (PcF.later HF.out (b2)).f33, f34 := (PcF.later HF.out (b2)).f34, f35 := HF.out.f35 }
    | 24, _ => exact absurd hun (by simp)
    | 25, _ => exact absurd hun (by simp)
    | 26, _ =>
      have e26 : b26 = false := hun
      subst e26
      have e23 : b23 = true := ready_dep 23 hi (by kernel_rfl)
      subst e23
      refine wpOp_step rfl (fun K hK0 => ?_)
      have hK := (show Shut _ from hK0)
      clear hK0
      simp only [pa]
      go_simp
      go_wp2_with (first | (go_at_call 28; refine (iPutText_any o _ ho).mono ?_; rintro e x2 ⟨a2, c2, rfl, o2, b2⟩))
      refine hK.out _ _ ⟨?_, ?_⟩
      · exact HSx.out _ (hSB.out.trans ((b2).mono hSB.out.size))
      · refine ⟨b8, b9, b13, b19, b20, true, true, b31, b32, b33, b34, b35, _, _, _, _, _, _, _, _, _, _, _, _, rfl, by simp only [pa]; rfl, ?_⟩
        exact { f8 := (PcF.later HF.out (b2)).f8, f9 := (PcF.later HF.out (b2)).f9, f13 := (PcF.later HF.out (b2)).f13, f19 := (PcF.later HF.out (b2)).f19, f20 := (PcF.later HF.out (b2)).f20, f23 := (PcF.later HF.out (b2)).f23, f26 := fun _ => BytRow.own o2, f31 := (PcF.later HF.out (b2)).f31, f32 := (PcF.later HF.out (b2)).f32, f33 := (PcF.later HF.out (b2)).f33, f34 := (PcF.later HF.out (b2)).f34, f35 := HF.out.f35 }
    | 27, _ => exact absurd hun (by simp)
    | 28, _ => exact absurd hun (by simp)
    | 29, _ => exact absurd hun (by simp)
    | 30, _ => exact absurd hun (by simp)
    | 31, _ =>
      have e31 : b31 = false := hun
      subst e31
      refine wpOp_step rfl (fun K hK0 => ?_)
      have hK := (show Shut _ from hK0)
      clear hK0
      simp only [pa]
      go_simp
      refine hK.out _ _ ⟨?_, ?_⟩
      · exact HSx.out _ (hSB.out.trans ((alloc_below _ _).mono hSB.out.size))
      · refine ⟨b8, b9, b13, b19, b20, b23, b26, true, b32, b33, b34, b35, _, _, _, _, _, _, _, _, _, _, _, _, rfl, by simp only [pa]; rfl, ?_⟩
        exact { f8 := (PcF.later HF.out (alloc_below _ _)).f8, f9 := (PcF.later HF.out (alloc_below _ _)).f9, f13 := (PcF.later HF.out (alloc_below _ _)).f13, f19 := (PcF.later HF.out (alloc_below _ _)).f19, f20 := (PcF.later HF.out (alloc_below _ _)).f20, f23 := (PcF.later HF.out (alloc_below _ _)).f23, f26 := (PcF.later HF.out (alloc_below _ _)).f26, f31 := fun _ => irow2 _ _ t sp, f32 := (PcF.later HF.out (alloc_below _ _)).f32, f33 := (PcF.later HF.out (alloc_below _ _)).f33, f34 := (PcF.later HF.out (alloc_below _ _)).f34, f35 := HF.out.f35 }
    | 32, _ =>
      have e32 : b32 = false := hun
      subst e32
      have e26 : b26 = true := ready_dep 26 hi (by kernel_rfl)
      subst e26
      have e31 : b31 = true := ready_dep 31 hi (by kernel_rfl)
      subst e31
      obtain ⟨g, c, rfl, hg, hcs⟩ := HF.out.f31 rfl
      refine wpOp_step rfl (fun K hK0 => ?_)
      have hK := (show Shut _ from hK0)
      clear hK0
      simp only [pa]
      go_simp
      go_wp2_with (first | (go_at_call 26; refine (putNums_any g c 2 [t, sp] _ hg rfl (by omega) hcs).mono ?_; rintro e x2 ⟨a2, c2, rfl, o2, b2⟩))
      refine hK.out _ _ ⟨?_, ?_⟩
      · exact HSx.out _ (hSB.out.trans ((b2).mono hSB.out.size))
      · refine ⟨b8, b9, b13, b19, b20, b23, true, true, true, b33, b34, b35, _, _, _, _, _, _, _, _, _, _, _, _, rfl, by simp only [pa]; rfl, ?_⟩
        exact { f8 := (PcF.later HF.out (b2)).f8, f9 := (PcF.later HF.out (b2)).f9, f13 := (PcF.later HF.out (b2)).f13, f19 := (PcF.later HF.out (b2)).f19, f20 := (PcF.later HF.out (b2)).f20, f23 := (PcF.later HF.out (b2)).f23, f26 := (PcF.later HF.out (b2)).f26, f31 := (PcF.later HF.out (b2)).f31, f32 := fun _ => BytRow.own o2, f33 := (PcF.later HF.out (b2)).f33, f34 := (PcF.later HF.out (b2)).f34, f35 := HF.out.f35 }
    | 33, _ =>
      have e33 : b33 = false := hun
      subst e33
      have e9 : b9 = true := ready_dep 9 hi (by kernel_rfl)
      subst e9
      have e13 : b13 = true := ready_dep 13 hi (by kernel_rfl)
      subst e13
      have e20 : b20 = true := ready_dep 20 hi (by kernel_rfl)
      subst e20
      have e23 : b23 = true := ready_dep 23 hi (by kernel_rfl)
      subst e23
      have e26 : b26 = true := ready_dep 26 hi (by kernel_rfl)
      subst e26
      have e32 : b32 = true := ready_dep 32 hi (by kernel_rfl)
      subst e32
      obtain ⟨a0, c0, rfl, h0, n0⟩ := HF.out.f9 rfl
      obtain ⟨a1, c1, rfl, h1, n1⟩ := HF.out.f13 rfl
      obtain ⟨a2, c2, rfl, h2, n2⟩ := HF.out.f20 rfl
      obtain ⟨a3, c3, rfl, h3, n3⟩ := HF.out.f23 rfl
      obtain ⟨a4, c4, rfl, h4, n4⟩ := HF.out.f26 rfl
      obtain ⟨a5, c5, rfl, h5, n5⟩ := HF.out.f32 rfl
      refine wpOp_step rfl (fun K hK0 => ?_)
      have hK := (show Shut _ from hK0)
      clear hK0
      simp only [pa]
      go_simp
      refine hK.out _ _ ⟨?_, ?_⟩
      · exact HSx.out _ (hSB.out.trans ((alloc_below _ _).mono hSB.out.size))
      · refine ⟨b8, true, true, b19, true, true, true, b31, true, true, b34, b35, _, _, _, _, _, _, _, _, _, _, _, _, rfl, by simp only [pa]; rfl, ?_⟩
        exact { f8 := (PcF.later HF.out (alloc_below _ _)).f8, f9 := (PcF.later HF.out (alloc_below _ _)).f9, f13 := (PcF.later HF.out (alloc_below _ _)).f13, f19 := (PcF.later HF.out (alloc_below _ _)).f19, f20 := (PcF.later HF.out (alloc_below _ _)).f20, f23 := (PcF.later HF.out (alloc_below _ _)).f23, f26 := (PcF.later HF.out (alloc_below _ _)).f26, f31 := (PcF.later HF.out (alloc_below _ _)).f31, f32 := (PcF.later HF.out (alloc_below _ _)).f32, f33 := fun _ => ⟨_, rfl, by simp, fun j hj => by
          rcases j with _ | _ | _ | _ | _ | _ | j
          · exact ⟨a0, c0, _, rfl, by simp [go_sem], h0.later (alloc_below _ _), n0⟩
          · exact ⟨a1, c1, _, rfl, by simp [go_sem], h1.later (alloc_below _ _), n1⟩
          · exact ⟨a2, c2, _, rfl, by simp [go_sem], h2.later (alloc_below _ _), n2⟩
          · exact ⟨a3, c3, _, rfl, by simp [go_sem], h3.later (alloc_below _ _), n3⟩
          · exact ⟨a4, c4, _, rfl, by simp [go_sem], h4.later (alloc_below _ _), n4⟩
          · exact ⟨a5, c5, _, rfl, by simp [go_sem], h5.later (alloc_below _ _), n5⟩
          · simp at hj; omega⟩, f34 := (PcF.later HF.out (alloc_below _ _)).f34, f35 := HF.out.f35 }
    | 34, _ =>
      have e34 : b34 = false := hun
      subst e34
      have e32 : b32 = true := ready_dep 32 hi (by kernel_rfl)
      subst e32
      have e33 : b33 = true := ready_dep 33 hi (by kernel_rfl)
      subst e33
      obtain ⟨g, rfl, hg, hR⟩ := HF.out.f33 rfl
      have HRw := hidP hR
      clear hR
      refine wpOp_step rfl (fun K hK0 => ?_)
      have hK := (show Shut _ from hK0)
      clear hK0
      simp only [pa]
      go_simp
      have hcat := concat_any g 6 6 [numsB [k, s, q, n], adrB aS aH.toInt aL.toInt, numsB [ab, b], adrB hS hH hL, txtB o, numsB [t, sp]] x rfl (by omega) hg HRw.out HZ.out.1 HZ.out.2
      rw [HZf.out] at hcat
      have HCa := hidP hcat
      clear hcat
      go_wp2_with (first | (go_at_call 25; refine (HCa.out).mono ?_; rintro e x2 ⟨g2, c2, rfl, o2, b2⟩))
      refine hK.out _ _ ⟨?_, ?_⟩
      · exact HSx.out _ (hSB.out.trans ((b2).mono hSB.out.size))
      · refine ⟨b8, b9, b13, b19, b20, b23, b26, b31, true, true, true, b35, _, _, _, _, _, _, _, _, _, _, _, _, rfl, by simp only [pa]; rfl, ?_⟩
        exact { f8 := (PcF.later HF.out (b2)).f8, f9 := (PcF.later HF.out (b2)).f9, f13 := (PcF.later HF.out (b2)).f13, f19 := (PcF.later HF.out (b2)).f19, f20 := (PcF.later HF.out (b2)).f20, f23 := (PcF.later HF.out (b2)).f23, f26 := (PcF.later HF.out (b2)).f26, f31 := (PcF.later HF.out (b2)).f31, f32 := (PcF.later HF.out (b2)).f32, f33 := (PcF.later HF.out (b2)).f33, f34 := fun _ => ⟨g2, c2, rfl, o2.mono hSB.out.size⟩, f35 := fun e => absurd (HF.out.f35 e).1 (by simp) }
    | 35, _ =>
      have e35 : b35 = false := hun
      subst e35
      have e8 : b8 = true := ready_dep 8 hi (by kernel_rfl)
      subst e8
      have e9 : b9 = true := ready_dep 9 hi (by kernel_rfl)
      subst e9
      have e13 : b13 = true := ready_dep 13 hi (by kernel_rfl)
      subst e13
      have e19 : b19 = true := ready_dep 19 hi (by kernel_rfl)
      subst e19
      have e20 : b20 = true := ready_dep 20 hi (by kernel_rfl)
      subst e20
      have e23 : b23 = true := ready_dep 23 hi (by kernel_rfl)
      subst e23
      have e26 : b26 = true := ready_dep 26 hi (by kernel_rfl)
      subst e26
      have e31 : b31 = true := ready_dep 31 hi (by kernel_rfl)
      subst e31
      have e32 : b32 = true := ready_dep 32 hi (by kernel_rfl)
      subst e32
      have e33 : b33 = true := ready_dep 33 hi (by kernel_rfl)
      subst e33
      have e34 : b34 = true := ready_dep 34 hi (by kernel_rfl)
      subst e34
      refine wpOp_step rfl (fun K hK0 => ?_)
      have hK := (show Shut _ from hK0)
      clear hK0
      simp only [pa]
      go_simp
      refine hK.out _ _ ⟨?_, ?_⟩
      · exact HSx.out _ (hSB.out.trans ((Below.refl _ _).mono hSB.out.size))
      · refine ⟨true, true, true, true, true, true, true, true, true, true, true, true, _, _, _, _, _, _, _, _, _, _, _, _, rfl, by simp only [pa]; rfl, ?_⟩
        exact { f8 := (PcF.later HF.out (Below.refl _ _)).f8, f9 := (PcF.later HF.out (Below.refl _ _)).f9, f13 := (PcF.later HF.out (Below.refl _ _)).f13, f19 := (PcF.later HF.out (Below.refl _ _)).f19, f20 := (PcF.later HF.out (Below.refl _ _)).f20, f23 := (PcF.later HF.out (Below.refl _ _)).f23, f26 := (PcF.later HF.out (Below.refl _ _)).f26, f31 := (PcF.later HF.out (Below.refl _ _)).f31, f32 := (PcF.later HF.out (Below.refl _ _)).f32, f33 := (PcF.later HF.out (Below.refl _ _)).f33, f34 := (PcF.later HF.out (Below.refl _ _)).f34, f35 := fun _ => ⟨rfl, rfl⟩ }
    | j + 36, h => exact absurd h (by simp)
  · rintro listed a x ⟨b8, b9, b13, b19, b20, b23, b26, b31, b32, b33, b34, b35, v15, v16, v20, v26, v27, v30, v33, v38, v39, v40, v41, v2, rfl, rfl, hF⟩ hHeld hnil
    have hno : ∀ i, i ∈ Region.ready .any _ _ → False := fun i h => by rw [hnil] at h; cases h
    have e8 : b8 = true := by
      cases b8
      · exact (hno 8 (ready_in (by decide) (by kernel_rfl))).elim
      · rfl
    subst e8
    have e9 : b9 = true := by
      cases b9
      · exact (hno 9 (ready_in (by decide) (by kernel_rfl))).elim
      · rfl
    subst e9
    have e13 : b13 = true := by
      cases b13
      · exact (hno 13 (ready_in (by decide) (by kernel_rfl))).elim
      · rfl
    subst e13
    have e19 : b19 = true := by
      cases b19
      · exact (hno 19 (ready_in (by decide) (by kernel_rfl))).elim
      · rfl
    subst e19
    have e20 : b20 = true := by
      cases b20
      · exact (hno 20 (ready_in (by decide) (by kernel_rfl))).elim
      · rfl
    subst e20
    have e23 : b23 = true := by
      cases b23
      · exact (hno 23 (ready_in (by decide) (by kernel_rfl))).elim
      · rfl
    subst e23
    have e26 : b26 = true := by
      cases b26
      · exact (hno 26 (ready_in (by decide) (by kernel_rfl))).elim
      · rfl
    subst e26
    have e31 : b31 = true := by
      cases b31
      · exact (hno 31 (ready_in (by decide) (by kernel_rfl))).elim
      · rfl
    subst e31
    have e32 : b32 = true := by
      cases b32
      · exact (hno 32 (ready_in (by decide) (by kernel_rfl))).elim
      · rfl
    subst e32
    have e33 : b33 = true := by
      cases b33
      · exact (hno 33 (ready_in (by decide) (by kernel_rfl))).elim
      · rfl
    subst e33
    have e34 : b34 = true := by
      cases b34
      · exact (hno 34 (ready_in (by decide) (by kernel_rfl))).elim
      · rfl
    subst e34
    have e35 : b35 = true := by
      cases b35
      · exact (hno 35 (ready_in (by decide) (by kernel_rfl))).elim
      · rfl
    subst e35
    obtain ⟨g, c, rfl, hO⟩ := hF.f34 rfl
    obtain ⟨_, rfl⟩ := hF.f35 rfl
    have HO := hidP (hO.mono (B' := w.heap.size) hWB)
    have HB := hidP (HW.out.trans ((hHeld.2.2.2.2.2.2.2.2.2.2.2.2.2.2.2).mono hWB))
    clear hHeld hF hO hnil hno
    simp only [pa]
    go_wp2_with fail
    go_ret
    exact ⟨g, c, rfl, HO.out, HB.out⟩

end Go.Proofs.YtnchndcanhmbeaaGreatDoor
namespace Go.Proofs.YtnchndcanhmbeaaGreatDoor
open Go.RowKit

theorem bx4 (w : World) (t : TypeId) (v0 v1 v2 v3 : Value) : (w.alloc (.cells #[v0, v1, v2, v3] t)).cell? ⟨w.heap.size, 0, none⟩ = some v0 ∧ (w.alloc (.cells #[v0, v1, v2, v3] t)).cell? ⟨w.heap.size, 1, none⟩ = some v1 ∧ (w.alloc (.cells #[v0, v1, v2, v3] t)).cell? ⟨w.heap.size, 2, none⟩ = some v2 ∧ (w.alloc (.cells #[v0, v1, v2, v3] t)).cell? ⟨w.heap.size, 3, none⟩ = some v3 := ⟨by simp [go_sem], by simp [go_sem], by simp [go_sem], by simp [go_sem]⟩

theorem src_own {w : World} {B c : Nat} {a : Option Addr} {zs : List Int} (h : Own w B (.slice a zs.length c) zs) : Src Tryz.prog 1 29 (.slice a zs.length c) zs.length (zs.map (Value.int .u8)) w := src_byt c h.bytA (fun e => own_cap h e)

theorem step_app2 {ops : Array Oper} {o : Oper} {a : Act} {K : Act → World → Prop} {Q : Exit → Act → World → Prop} {E : Prop} (w : World) (d : Nat) (hd : o.dst = some d) (hgd : o.guard = none) (s x : Operand) (tx : TypeId)
    (ho : o.op = .call { callee := .builtin .append, args := #[s, x], argTypes := #[29, tx] })
    (B g n cap : Nat) (zs ns : List Int) (v xv : Value) (hsv : a.eval s = v) (hv : v = .slice (some ⟨g, 0, none⟩) n cap) (hn : n = zs.length) (hown : Own w B (.slice (some ⟨g, 0, none⟩) n cap) zs)
    (hx : a.eval x = xv) (hs : Src Tryz.prog 1 tx xv ns.length (ns.map (Value.int .u8)) w) (hl : n + ns.length ≤ 1000000000) (hB : B ≤ w.heap.size)
    (h : ∀ h c w', Own w' B (.slice (some ⟨h, 0, none⟩) (n + ns.length) c) (zs ++ ns) → w.grownBy w' (some g) → (h = g ∨ h = w.heap.size) → K (a.put (some d) (.slice (some ⟨h, 0, none⟩) (n + ns.length) c)) w') :
    if Region.wanted o (yielded ops a.tmps) = true then Oper.wp Tryz.prog o a w K Q else E :=
  step_app w hgd s x tx ho B g n cap zs ns v xv hsv hv hn hown hx hs hl hB (fun b c w' h2 h3 h4 => by rw [hd]; exact h b c w' h2 h3 h4)

set_option maxRecDepth 10000 in
set_option maxHeartbeats 4000000 in
theorem sPre8_any (s : Bool) (H L b : Int) (Z : List Int) (hZ : adrB s H L ++ numB (u64 b) = Z) (w : World) :
    Calls Tryz.prog 18 #[.agg #[.bool s, .int .i64 H, .int .i64 L, .int .i64 b]] w fun e w' => ∃ g c, e = .returned (.slice (some ⟨g, 0, none⟩) Z.length c) ∧ Own w' w.heap.size (.slice (some ⟨g, 0, none⟩) Z.length c) Z ∧ Below w.heap.size w w' := by
  have HZ := hidP hZ
  have hl1 := adrB_len s H L
  have hl2 := numB_ten _ (u64_lt b)
  clear hZ
  have HA := hidP (sPutAddr_any s H L)
  have HN := hidP (sPutNum_any b)
  generalize adrB s H L = Z1 at *
  generalize numB (u64 b) = Z2 at *
  go_enter Tryz.func18, Tryz.ntmps18
  go_wp2_with fail
  obtain ⟨x0, x1, x2, x3⟩ := bx4 w 33 (.bool s) (.int .i64 H) (.int .i64 L) (.int .i64 b)
  have xB := hidP (alloc_below w (.cells #[.bool s, .int .i64 H, .int .i64 L, .int .i64 b] 33))
  have xL : w.heap.size < (w.alloc (.cells #[.bool s, .int .i64 H, .int .i64 L, .int .i64 b] 33)).heap.size := by simp
  generalize w.alloc (.cells #[.bool s, .int .i64 H, .int .i64 L, .int .i64 b] 33) = W at *
  have HSx : Hid (∀ x, Below W.heap.size W x → (x.cell? ⟨w.heap.size, 0, none⟩ = some (.bool s) ∧ x.cell? ⟨w.heap.size, 1, none⟩ = some (.int .i64 H) ∧ x.cell? ⟨w.heap.size, 2, none⟩ = some (.int .i64 L) ∧ x.cell? ⟨w.heap.size, 3, none⟩ = some (.int .i64 b) ∧ Below W.heap.size W x)) := hidP fun x h =>
    ⟨(h.cell xL).trans x0, (h.cell xL).trans x1, (h.cell xL).trans x2, (h.cell xL).trans x3, h⟩
  refine wp_region_held_drew (S := (fun x => x.cell? ⟨w.heap.size, 0, none⟩ = some (.bool s) ∧ x.cell? ⟨w.heap.size, 1, none⟩ = some (.int .i64 H) ∧ x.cell? ⟨w.heap.size, 2, none⟩ = some (.int .i64 L) ∧ x.cell? ⟨w.heap.size, 3, none⟩ = some (.int .i64 b) ∧ Below W.heap.size W x)) (by kernel_rfl) ?_ (fun hHeld => ?_)
  · try dsimp only
    exact HSx.out _ (Below.refl _ _).drew
  refine tkA 0 3 (v := ?_) rfl (by kernel_rfl) (fun _ _ _ h => h) (by rfl) ?_ (by assumption) ?_; rotate_left; · (intro w hSw; (try dsimp only at hSw); go_simp; try with_reducible rfl)
  simp only [pa]
  refine tkA 1 4 (v := ?_) rfl (by kernel_rfl) (fun _ _ _ h => h) (by rfl) ?_ (by assumption) ?_; rotate_left; · (intro w hSw; (try dsimp only at hSw); go_simp; try with_reducible rfl)
  simp only [pa]
  refine tkA 3 6 (v := ?_) rfl (by kernel_rfl) (fun _ _ _ h => h) (by rfl) ?_ (by assumption) ?_; rotate_left; · (intro w hSw; (try dsimp only at hSw); go_simp; try with_reducible rfl)
  simp only [pa]
  refine tkA 4 7 (v := ?_) rfl (by kernel_rfl) (fun _ _ _ h => h) (by rfl) ?_ (by assumption) ?_; rotate_left; · (intro w hSw; (try dsimp only at hSw); go_simp; try with_reducible rfl)
  simp only [pa]
  refine wpAnyH_ready (rs := [2]) (by kernel_rfl) (by simp) ?_
  refine AllReadyH.cons rfl (fun K hK => ?_) AllReadyH.nil
  go_simp
  go_wp2_with (first | (go_at_call 20; refine (HA.out _).mono ?_; rintro e w2 ⟨g2, c2, rfl, o2, b2⟩))
  have k2 : Below W.heap.size W w2 := (hHeld.2.2.2.2).trans (b2.mono (hHeld.2.2.2.2).size)
  have O2 := hidP (show Own w2 W.heap.size _ _ from o2)
  clear o2
  refine hK.out _ _ ?_ (fun hHeld => ?_)
  · try dsimp only
    exact HSx.out _ k2
  clear hK K
  refine wpAnyH_ready (rs := [5]) (by kernel_rfl) (by simp) ?_
  refine AllReadyH.cons rfl (fun K hK => ?_) AllReadyH.nil
  go_simp
  go_wp2_with (first | (go_at_call 19; refine (HN.out _).mono ?_; rintro e w3 ⟨a3, c3, rfl, o3, b3⟩))
  have k3 : Below W.heap.size W w3 := k2.trans (b3.mono k2.size)
  have O3 := hidP o3
  have O2' := hidP (O2.out.later b3)
  clear o3
  refine hK.out _ _ ?_ (fun hHeld => ?_)
  · try dsimp only
    exact HSx.out _ k3
  clear hK K
  refine wpAnyH_ready (rs := [6]) (by kernel_rfl) (by simp) ?_
  refine AllReadyH.cons rfl (fun K hK => ?_) AllReadyH.nil
  refine step_app2 _ 9 rfl rfl (.tmp 5) (.tmp 8) 29 rfl (W.heap.size) g2 (Z1.length) c2 (Z1) (Z2) _ _ rfl rfl rfl O2'.out rfl (src_own O3.out) (by omega) k3.size ?_
  intro g4 c4 w4 o4 r4 h4
  have k4 : Below W.heap.size W w4 := below_app k3 O2'.out k3.size r4
  have O4 := hidP o4
  clear o4 r4 h4
  refine hK.out _ _ ?_ (fun hHeld => ?_)
  · try dsimp only
    exact HSx.out _ k4
  clear hK K
  simp only [pa]
  refine tkA 7 2 (v := ?_) rfl (by kernel_rfl) (fun _ _ _ h => h) (by rfl) ?_ (by assumption) ?_; rotate_left; · (intro w hSw; (try dsimp only at hSw); go_simp; try with_reducible rfl)
  simp only [pa]
  have HE := hidP k4
  refine wpAnyH_done (by kernel_rfl) ?_ _
  clear hHeld
  go_wp2_with fail
  go_ret
  refine ⟨g4, c4, ?_, ?_, xB.out.trans (HE.out.mono xB.out.size)⟩
  · rw [← HZ.out, List.length_append]; rfl
  · rw [← HZ.out, List.length_append]; exact O4.out.mono xB.out.size

set_option maxRecDepth 20000 in
set_option maxHeartbeats 8000000 in
theorem sPut_yes (k s q n : Int) (aS : Bool) (aH aL : BitVec 64) (ab b : Int) (hS : Bool) (hH hL : Int) (o : ByteArray) (t sp : Int) (Zf : List Int) (hZf : [numsB [k, s, q, n], adrB aS aH.toInt aL.toInt, numsB [ab, b], adrB hS hH hL, txtB o, numsB [t, sp]].flatten = Zf) (ho : o.size ≤ 1048576) (w : World) (hr : ∀ W : World, Calls Tryz.prog 16 #[.agg #[.int .i64 k, .int .i64 s, .int .i64 q, .int .i64 n, .bool aS, .int .i64 aH.toInt, .int .i64 aL.toInt, .int .i64 ab, .int .i64 b, .bool hS, .int .i64 hH, .int .i64 hL, .string o, .int .i64 t, .int .i64 sp]] W fun e w' => e = .returned (.bool true) ∧ Below W.heap.size W w') :
    Calls Tryz.prog 6 #[.agg #[.int .i64 k, .int .i64 s, .int .i64 q, .int .i64 n, .bool aS, .int .i64 aH.toInt, .int .i64 aL.toInt, .int .i64 ab, .int .i64 b, .bool hS, .int .i64 hH, .int .i64 hL, .string o, .int .i64 t, .int .i64 sp]] w fun e w' => ∃ g c, e = .returned (.slice (some ⟨g, 0, none⟩) Zf.length c) ∧ Own w' w.heap.size (.slice (some ⟨g, 0, none⟩) Zf.length c) Zf ∧ Below w.heap.size w w' := by
  have HR := hidP hr
  have HZf : Hid ((((numsB [k, s, q, n] ++ (adrB aS aH.toInt aL.toInt ++ numB (u64 ab))) ++ numB (u64 b)) ++ adrB hS hH hL) ++ txtB o ++ numsB [t, sp] = Zf) := hidP (by rw [← hZf]; simp [numsB])
  have h1 : (numsB [k, s, q, n]).length ≤ 40 := numsB_len [k, s, q, n]
  have h2 : ((adrB aS aH.toInt aL.toInt ++ numB (u64 ab))).length ≤ 27 := by rw [List.length_append]; have := adrB_len aS aH.toInt aL.toInt; have := numB_ten _ (u64_lt ab); omega
  have h3 := numB_ten _ (u64_lt b)
  have h4 := adrB_len hS hH hL
  have h5 : (txtB o).length ≤ 10 + o.size := by unfold txtB; rw [List.length_append, bys_len]; have := numB_ten _ (u64_lt (o.size : Int)); omega
  have HPr := hidP (sPre8_any aS aH.toInt aL.toInt ab _ rfl)
  have HNb := hidP (sPutNum_any b)
  have HAd := hidP (sPutAddr_any hS hH hL)
  have HTx := hidP (fun W => sPutText_any o W ho)
  clear hr hZf
  go_enter Tryz.func6, Tryz.ntmps6
  go_wp2_with fail
  obtain ⟨x0, x1, x2, x3, x4, x5, x6, x7, x8, x9, x10, x11, x12, x13, x14⟩ := bx15 w 35 (.int .i64 k) (.int .i64 s) (.int .i64 q) (.int .i64 n) (.bool aS) (.int .i64 aH.toInt) (.int .i64 aL.toInt) (.int .i64 ab) (.int .i64 b) (.bool hS) (.int .i64 hH) (.int .i64 hL) (.string o) (.int .i64 t) (.int .i64 sp)
  have xB := hidP (alloc_below w (.cells #[.int .i64 k, .int .i64 s, .int .i64 q, .int .i64 n, .bool aS, .int .i64 aH.toInt, .int .i64 aL.toInt, .int .i64 ab, .int .i64 b, .bool hS, .int .i64 hH, .int .i64 hL, .string o, .int .i64 t, .int .i64 sp] 35))
  have xL : w.heap.size < (w.alloc (.cells #[.int .i64 k, .int .i64 s, .int .i64 q, .int .i64 n, .bool aS, .int .i64 aH.toInt, .int .i64 aL.toInt, .int .i64 ab, .int .i64 b, .bool hS, .int .i64 hH, .int .i64 hL, .string o, .int .i64 t, .int .i64 sp] 35)).heap.size := by simp
  generalize w.alloc (.cells #[.int .i64 k, .int .i64 s, .int .i64 q, .int .i64 n, .bool aS, .int .i64 aH.toInt, .int .i64 aL.toInt, .int .i64 ab, .int .i64 b, .bool hS, .int .i64 hH, .int .i64 hL, .string o, .int .i64 t, .int .i64 sp] 35) = W1 at *
  refine (HR.out _).mono ?_
  rintro e W ⟨rfl, hb⟩
  have y0 := (hb.cell xL).trans x0
  have y1 := (hb.cell xL).trans x1
  have y2 := (hb.cell xL).trans x2
  have y3 := (hb.cell xL).trans x3
  have y4 := (hb.cell xL).trans x4
  have y5 := (hb.cell xL).trans x5
  have y6 := (hb.cell xL).trans x6
  have y7 := (hb.cell xL).trans x7
  have y8 := (hb.cell xL).trans x8
  have y9 := (hb.cell xL).trans x9
  have y10 := (hb.cell xL).trans x10
  have y11 := (hb.cell xL).trans x11
  have y12 := (hb.cell xL).trans x12
  have y13 := (hb.cell xL).trans x13
  have y14 := (hb.cell xL).trans x14
  have yL : w.heap.size < W.heap.size := Nat.lt_of_lt_of_le xL hb.size
  have HW := hidP (xB.out.trans (hb.mono xB.out.size))
  clear hb xB xL x0 x1 x2 x3 x4 x5 x6 x7 x8 x9 x10 x11 x12 x13 x14 HR
  go_wp2_with fail
  have m1 := alloc_below W (.cells #[] 5)
  have m2 := alloc_below (W.alloc (.cells #[] 5)) (.cells #[.int .i64 k, .int .i64 s, .int .i64 q, .int .i64 n] 3)
  have M := hidP (m1.trans (m2.mono m1.size))
  have oW := hidP ((own_nil W W.heap.size (Nat.le_refl _)).later m2)
  have iR := irow4 (W.alloc (.cells #[] 5)) 3 k s q n
  have zW : (W.alloc (.cells #[] 5)).heap.size = W.heap.size + 1 := by simp
  rw [zW] at iR
  obtain ⟨gi, ci, ei, hgi, hci⟩ := iR
  simp only [List.length_cons, List.length_nil, Value.slice.injEq, Option.some.injEq, Addr.mk.injEq, and_true, true_and] at ei
  obtain ⟨rfl, rfl⟩ := ei
  have HCi := hidP (And.intro hgi hci)
  clear m1 m2 zW hgi hci
  generalize (W.alloc (.cells #[] 5)).alloc (.cells #[.int .i64 k, .int .i64 s, .int .i64 q, .int .i64 n] 3) = W2 at *
  refine (sNums_any W.heap.size (W.heap.size + 1) 4 4 W.heap.size 0 0 [] [k, s, q, n] W2 M.out.size rfl (by omega) oW.out HCi.out.1 (by omega) rfl (by omega) HCi.out.2).mono ?_
  rintro e u ⟨g0, c0, rfl, o0, hg0, b0⟩
  rw [List.nil_append] at *
  have O0 := hidP o0
  have U := hidP (M.out.trans b0)
  have z0 := (U.out.cell yL).trans y0
  have z1 := (U.out.cell yL).trans y1
  have z2 := (U.out.cell yL).trans y2
  have z3 := (U.out.cell yL).trans y3
  have z4 := (U.out.cell yL).trans y4
  have z5 := (U.out.cell yL).trans y5
  have z6 := (U.out.cell yL).trans y6
  have z7 := (U.out.cell yL).trans y7
  have z8 := (U.out.cell yL).trans y8
  have z9 := (U.out.cell yL).trans y9
  have z10 := (U.out.cell yL).trans y10
  have z11 := (U.out.cell yL).trans y11
  have z12 := (U.out.cell yL).trans y12
  have z13 := (U.out.cell yL).trans y13
  have z14 := (U.out.cell yL).trans y14
  have zL : w.heap.size < W.heap.size := yL
  have uB : W.heap.size ≤ u.heap.size := U.out.size
  clear o0 b0 hg0 HCi oW M y0 y1 y2 y3 y4 y5 y6 y7 y8 y9 y10 y11 y12 y13 y14
  generalize numsB [k, s, q, n] = Y0 at *
  generalize (adrB aS aH.toInt aL.toInt ++ numB (u64 ab)) = Zp at *
  generalize numB (u64 b) = Zn at *
  generalize adrB hS hH hL = Zh at *
  generalize txtB o = Zt at *
  go_wp2_with fail
  have HSx : Hid (∀ x, Below W.heap.size u x → (x.cell? ⟨w.heap.size, 0, none⟩ = some (.int .i64 k) ∧ x.cell? ⟨w.heap.size, 1, none⟩ = some (.int .i64 s) ∧ x.cell? ⟨w.heap.size, 2, none⟩ = some (.int .i64 q) ∧ x.cell? ⟨w.heap.size, 3, none⟩ = some (.int .i64 n) ∧ x.cell? ⟨w.heap.size, 4, none⟩ = some (.bool aS) ∧ x.cell? ⟨w.heap.size, 5, none⟩ = some (.int .i64 aH.toInt) ∧ x.cell? ⟨w.heap.size, 6, none⟩ = some (.int .i64 aL.toInt) ∧ x.cell? ⟨w.heap.size, 7, none⟩ = some (.int .i64 ab) ∧ x.cell? ⟨w.heap.size, 8, none⟩ = some (.int .i64 b) ∧ x.cell? ⟨w.heap.size, 9, none⟩ = some (.bool hS) ∧ x.cell? ⟨w.heap.size, 10, none⟩ = some (.int .i64 hH) ∧ x.cell? ⟨w.heap.size, 11, none⟩ = some (.int .i64 hL) ∧ x.cell? ⟨w.heap.size, 12, none⟩ = some (.string o) ∧ x.cell? ⟨w.heap.size, 13, none⟩ = some (.int .i64 t) ∧ x.cell? ⟨w.heap.size, 14, none⟩ = some (.int .i64 sp) ∧ Below W.heap.size u x)) := hidP fun x h =>
    ⟨(h.cell zL).trans z0, (h.cell zL).trans z1, (h.cell zL).trans z2, (h.cell zL).trans z3, (h.cell zL).trans z4, (h.cell zL).trans z5, (h.cell zL).trans z6, (h.cell zL).trans z7, (h.cell zL).trans z8, (h.cell zL).trans z9, (h.cell zL).trans z10, (h.cell zL).trans z11, (h.cell zL).trans z12, (h.cell zL).trans z13, (h.cell zL).trans z14, h⟩
  refine wp_region_held_drew (S := (fun x => x.cell? ⟨w.heap.size, 0, none⟩ = some (.int .i64 k) ∧ x.cell? ⟨w.heap.size, 1, none⟩ = some (.int .i64 s) ∧ x.cell? ⟨w.heap.size, 2, none⟩ = some (.int .i64 q) ∧ x.cell? ⟨w.heap.size, 3, none⟩ = some (.int .i64 n) ∧ x.cell? ⟨w.heap.size, 4, none⟩ = some (.bool aS) ∧ x.cell? ⟨w.heap.size, 5, none⟩ = some (.int .i64 aH.toInt) ∧ x.cell? ⟨w.heap.size, 6, none⟩ = some (.int .i64 aL.toInt) ∧ x.cell? ⟨w.heap.size, 7, none⟩ = some (.int .i64 ab) ∧ x.cell? ⟨w.heap.size, 8, none⟩ = some (.int .i64 b) ∧ x.cell? ⟨w.heap.size, 9, none⟩ = some (.bool hS) ∧ x.cell? ⟨w.heap.size, 10, none⟩ = some (.int .i64 hH) ∧ x.cell? ⟨w.heap.size, 11, none⟩ = some (.int .i64 hL) ∧ x.cell? ⟨w.heap.size, 12, none⟩ = some (.string o) ∧ x.cell? ⟨w.heap.size, 13, none⟩ = some (.int .i64 t) ∧ x.cell? ⟨w.heap.size, 14, none⟩ = some (.int .i64 sp) ∧ Below W.heap.size u x)) (by kernel_rfl) ?_ (fun hHeld => ?_)
  · try dsimp only
    exact HSx.out _ (Below.refl _ _).drew
  refine tkA 0 19 (v := ?_) rfl (by kernel_rfl) (fun _ _ _ h => h) (by rfl) ?_ (by assumption) ?_; rotate_left; · (intro w hSw; (try dsimp only at hSw); go_simp; try with_reducible rfl)
  simp only [pa]
  refine tkA 1 20 (v := ?_) rfl (by kernel_rfl) (fun _ _ _ h => h) (by rfl) ?_ (by assumption) ?_; rotate_left; · (intro w hSw; (try dsimp only at hSw); go_simp; try with_reducible rfl)
  simp only [pa]
  refine tkA 2 21 (v := ?_) rfl (by kernel_rfl) (fun _ _ _ h => h) (by rfl) ?_ (by assumption) ?_; rotate_left; · (intro w hSw; (try dsimp only at hSw); go_simp; try with_reducible rfl)
  simp only [pa]
  refine tkA 5 24 (v := ?_) rfl (by kernel_rfl) (fun _ _ _ h => h) (by rfl) ?_ (by assumption) ?_; rotate_left; · (intro w hSw; (try dsimp only at hSw); go_simp; try with_reducible rfl)
  simp only [pa]
  refine tkA 6 25 (v := ?_) rfl (by kernel_rfl) (fun _ _ _ h => h) (by rfl) ?_ (by assumption) ?_; rotate_left; · (intro w hSw; (try dsimp only at hSw); go_simp; try with_reducible rfl)
  simp only [pa]
  refine tkA 9 28 (v := ?_) rfl (by kernel_rfl) (fun _ _ _ h => h) (by rfl) ?_ (by assumption) ?_; rotate_left; · (intro w hSw; (try dsimp only at hSw); go_simp; try with_reducible rfl)
  simp only [pa]
  refine tkA 10 29 (v := ?_) rfl (by kernel_rfl) (fun _ _ _ h => h) (by rfl) ?_ (by assumption) ?_; rotate_left; · (intro w hSw; (try dsimp only at hSw); go_simp; try with_reducible rfl)
  simp only [pa]
  refine tkA 13 32 (v := ?_) rfl (by kernel_rfl) (fun _ _ _ h => h) (by rfl) ?_ (by assumption) ?_; rotate_left; · (intro w hSw; (try dsimp only at hSw); go_simp; try with_reducible rfl)
  simp only [pa]
  refine tkA 14 33 (v := ?_) rfl (by kernel_rfl) (fun _ _ _ h => h) (by rfl) ?_ (by assumption) ?_; rotate_left; · (intro w hSw; (try dsimp only at hSw); go_simp; try with_reducible rfl)
  simp only [pa]
  refine wpAnyH_ready (rs := [3]) (by kernel_rfl) (by simp) ?_
  refine AllReadyH.cons rfl (fun K hK => ?_) AllReadyH.nil
  go_simp
  go_wp2_with (first | (go_at_call 18; refine (HPr.out _).mono ?_; rintro e v3 ⟨p3, d3, rfl, q3, b3⟩))
  have k3 : Below W.heap.size u v3 := (hHeld.2.2.2.2.2.2.2.2.2.2.2.2.2.2.2).trans (b3.mono (Nat.le_trans uB (hHeld.2.2.2.2.2.2.2.2.2.2.2.2.2.2.2).size))
  have Q3 := hidP q3
  have O1 := hidP (show Own v3 W.heap.size _ _ from (show Own u.drew W.heap.size _ _ from O0.out).later b3)
  have s3 : W.heap.size ≤ v3.heap.size := Nat.le_trans uB k3.size
  clear q3 b3
  refine hK.out _ _ ?_ (fun hHeld => ?_)
  · try dsimp only
    exact HSx.out _ k3
  clear hK K
  refine wpAnyH_ready (rs := [4]) (by kernel_rfl) (by simp) ?_
  refine AllReadyH.cons rfl (fun K hK => ?_) AllReadyH.nil
  refine step_app2 _ 23 rfl rfl (.tmp 19) (.tmp 22) 29 rfl (W.heap.size) g0 (Y0.length) c0 (Y0) (Zp) _ _ rfl rfl rfl O1.out rfl (src_own Q3.out) (by omega) s3 ?_
  intro g4 c4 v4 o4 r4 h4
  have k4 : Below W.heap.size u v4 := below_app k3 O1.out s3 r4
  have O4 := hidP o4
  have s4 : W.heap.size ≤ v4.heap.size := Nat.le_trans uB k4.size
  clear o4 r4 h4 O1 Q3
  refine hK.out _ _ ?_ (fun hHeld => ?_)
  · try dsimp only
    exact HSx.out _ k4
  clear hK K
  simp only [pa]
  rw [← List.length_append] at *
  have e1 : (Y0 ++ Zp).length ≤ 67 := by rw [List.length_append]; omega
  generalize hY1 : Y0 ++ Zp = Y1 at *
  refine wpAnyH_ready (rs := [7]) (by kernel_rfl) (by simp) ?_
  refine AllReadyH.cons rfl (fun K hK => ?_) AllReadyH.nil
  go_simp
  go_wp2_with (first | (go_at_call 19; refine (HNb.out _).mono ?_; rintro e v7 ⟨p7, d7, rfl, q7, b7⟩))
  have k7 : Below W.heap.size u v7 := k4.trans (b7.mono s4)
  have Q7 := hidP q7
  have O7 := hidP (O4.out.later b7)
  have s7 : W.heap.size ≤ v7.heap.size := Nat.le_trans uB k7.size
  clear q7 b7
  refine hK.out _ _ ?_ (fun hHeld => ?_)
  · try dsimp only
    exact HSx.out _ k7
  clear hK K
  refine wpAnyH_ready (rs := [8]) (by kernel_rfl) (by simp) ?_
  refine AllReadyH.cons rfl (fun K hK => ?_) AllReadyH.nil
  refine step_app2 _ 27 rfl rfl (.tmp 23) (.tmp 26) 29 rfl (W.heap.size) g4 (Y1.length) c4 (Y1) (Zn) _ _ rfl rfl rfl O7.out rfl (src_own Q7.out) (by omega) s7 ?_
  intro g8 c8 v8 o8 r8 h8
  have k8 : Below W.heap.size u v8 := below_app k7 O7.out s7 r8
  have O8 := hidP o8
  have s8 : W.heap.size ≤ v8.heap.size := Nat.le_trans uB k8.size
  clear o8 r8 h8 O7 Q7
  refine hK.out _ _ ?_ (fun hHeld => ?_)
  · try dsimp only
    exact HSx.out _ k8
  clear hK K
  simp only [pa]
  rw [← List.length_append] at *
  have e8 : (Y1 ++ Zn).length ≤ 77 := by rw [List.length_append]; omega
  generalize hY8 : Y1 ++ Zn = Y2 at *
  refine wpAnyH_ready (rs := [11]) (by kernel_rfl) (by simp) ?_
  refine AllReadyH.cons rfl (fun K hK => ?_) AllReadyH.nil
  go_simp
  go_wp2_with (first | (go_at_call 20; refine (HAd.out _).mono ?_; rintro e v11 ⟨p11, d11, rfl, q11, b11⟩))
  have k11 : Below W.heap.size u v11 := k8.trans (b11.mono s8)
  have Q11 := hidP q11
  have O11 := hidP (O8.out.later b11)
  have s11 : W.heap.size ≤ v11.heap.size := Nat.le_trans uB k11.size
  clear q11 b11
  refine hK.out _ _ ?_ (fun hHeld => ?_)
  · try dsimp only
    exact HSx.out _ k11
  clear hK K
  refine wpAnyH_ready (rs := [12]) (by kernel_rfl) (by simp) ?_
  refine AllReadyH.cons rfl (fun K hK => ?_) AllReadyH.nil
  refine step_app2 _ 31 rfl rfl (.tmp 27) (.tmp 30) 29 rfl (W.heap.size) g8 (Y2.length) c8 (Y2) (Zh) _ _ rfl rfl rfl O11.out rfl (src_own Q11.out) (by omega) s11 ?_
  intro g12 c12 v12 o12 r12 h12
  have k12 : Below W.heap.size u v12 := below_app k11 O11.out s11 r12
  have O12 := hidP o12
  have s12 : W.heap.size ≤ v12.heap.size := Nat.le_trans uB k12.size
  clear o12 r12 h12 O11 Q11
  refine hK.out _ _ ?_ (fun hHeld => ?_)
  · try dsimp only
    exact HSx.out _ k12
  clear hK K
  simp only [pa]
  rw [← List.length_append] at *
  have e12 : (Y2 ++ Zh).length ≤ 94 := by rw [List.length_append]; omega
  generalize hY12 : Y2 ++ Zh = Y3 at *
  refine wpAnyH_ready (rs := [15]) (by kernel_rfl) (by simp) ?_
  refine AllReadyH.cons rfl (fun K hK => ?_) AllReadyH.nil
  go_simp
  go_wp2_with (first | (go_at_call 21; refine (HTx.out _).mono ?_; rintro e v15 ⟨p15, d15, rfl, q15, b15⟩))
  have k15 : Below W.heap.size u v15 := k12.trans (b15.mono s12)
  have Q15 := hidP q15
  have O15 := hidP (O12.out.later b15)
  have s15 : W.heap.size ≤ v15.heap.size := Nat.le_trans uB k15.size
  clear q15 b15
  refine hK.out _ _ ?_ (fun hHeld => ?_)
  · try dsimp only
    exact HSx.out _ k15
  clear hK K
  refine wpAnyH_ready (rs := [16]) (by kernel_rfl) (by simp) ?_
  refine AllReadyH.cons rfl (fun K hK => ?_) AllReadyH.nil
  refine step_app2 _ 35 rfl rfl (.tmp 31) (.tmp 34) 29 rfl (W.heap.size) g12 (Y3.length) c12 (Y3) (Zt) _ _ rfl rfl rfl O15.out rfl (src_own Q15.out) (by omega) s15 ?_
  intro g16 c16 v16 o16 r16 h16
  have k16 : Below W.heap.size u v16 := below_app k15 O15.out s15 r16
  have O16 := hidP o16
  have s16 : W.heap.size ≤ v16.heap.size := Nat.le_trans uB k16.size
  clear o16 r16 h16 O15 Q15
  refine hK.out _ _ ?_ (fun hHeld => ?_)
  · try dsimp only
    exact HSx.out _ k16
  clear hK K
  simp only [pa]
  rw [← List.length_append] at *
  have e16 : (Y3 ++ Zt).length ≤ 1048700 := by rw [List.length_append]; omega
  generalize hY16 : Y3 ++ Zt = Y4 at *
  refine tkA 17 3 (v := ?_) rfl (by kernel_rfl) (fun _ _ _ h => h) (by rfl) ?_ (by assumption) ?_; rotate_left; · (intro w hSw; (try dsimp only at hSw); go_simp; try with_reducible rfl)
  simp only [pa]
  refine wpAnyH_done (by kernel_rfl) ?_ _
  have w13 := (k16.cell zL).trans z13
  have w14 := (k16.cell zL).trans z14
  have wL : w.heap.size < v16.heap.size := Nat.lt_of_lt_of_le zL s16
  have K := hidP k16
  clear hHeld HSx z0 z1 z2 z3 z4 z5 z6 z7 z8 z9 z10 z11 z12 z13 z14
  go_wp2_with fail
  have m1 := alloc_below v16 (.cells #[.int .i64 t, .int .i64 sp] 3)
  have M := hidP m1
  have O17 := hidP (O16.out.later m1)
  have gL := (O16.out.lt g16 rfl).2
  obtain ⟨gi, ci, ei, hgi, hci⟩ := irow2 v16 3 t sp
  simp only [List.length_cons, List.length_nil, Value.slice.injEq, Option.some.injEq, Addr.mk.injEq, and_true, true_and] at ei
  obtain ⟨rfl, rfl⟩ := ei
  have HCi := hidP (And.intro hgi hci)
  clear m1 hgi hci
  generalize v16.alloc (.cells #[.int .i64 t, .int .i64 sp] 3) = V at *
  refine (sNums_any W.heap.size v16.heap.size 2 2 g16 Y4.length c16 Y4 [t, sp] V (Nat.le_trans s16 M.out.size) rfl (by omega) O17.out HCi.out.1 (by omega) rfl (by omega) HCi.out.2).mono ?_
  rintro e R ⟨gr, cr, rfl, oR, _, bR⟩
  have HZ2 : Y4 ++ numsB [t, sp] = Zf := by rw [← HZf.out, ← hY16, ← hY12, ← hY8, ← hY1]
  rw [HZ2] at oR ⊢
  have HO := hidP oR
  have HBl := hidP (HW.out.trans ((U.out.trans (K.out.trans ((M.out.mono s16).trans bR))).mono HW.out.size))
  have hWB := HW.out.size
  clear oR bR
  go_wp2_with fail
  go_ret
  exact ⟨gr, cr, rfl, HO.out.mono hWB, HBl.out⟩

end Go.Proofs.YtnchndcanhmbeaaGreatDoor
