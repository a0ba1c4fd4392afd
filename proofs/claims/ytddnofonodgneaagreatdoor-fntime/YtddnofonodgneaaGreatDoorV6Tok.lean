/-
  The program's tokensDiffer: the library's sort and its Compact of the tokens.
-/
import Derived.Test.YtddnofonodgneaaGreatDoorV6Lse
import Derived.Test.YtddnofonodgneaaGreatDoorShelf
import Derived.Sort.OwnSortedInts
namespace Go.Proofs.YtddnofonodgneaaGreatDoor
open Go.RowKit Go.Sort

def KI : Kd Int := ⟨1, fun x => [.int .i64 x], fun _ => rfl, fun x u h => by
  simp at h; subst h; rfl⟩
theorem Tryz.tyI : GTy KI (.int .i64 0) 8 Tryz.prog 55 3 := ⟨Tryz.underlying55, by kernel_rfl, rfl, by omega⟩
theorem rowI {w : World} {a : Option Addr} {ps : List Int} (h : RowG KI w a ps) (j : Nat) (hj : j < ps.length) : ∃ p o q, a = some ⟨p, o, none⟩ ∧ p < w.heap.size ∧ ps[j]? = some q ∧ w.cell? ⟨p, o + j, none⟩ = some (.int .i64 q) := by
  obtain ⟨p, o, q, ha, hp, hq, c⟩ := h j hj
  have := c 0 _ rfl
  rw [show KI.k = 1 from rfl, Nat.mul_one, Nat.add_zero] at this
  exact ⟨p, o, q, ha, hp, hq, this⟩
theorem rowI0 {w : World} {g n cap B : Nat} {t : TypeId} {ps : List Int} (h : OwnG KI t w B (.slice (some ⟨g, 0, none⟩) n cap) ps) (j : Nat) (hj : j < ps.length) : ∃ q, g < w.heap.size ∧ ps[j]? = some q ∧ w.cell? ⟨g, j, none⟩ = some (.int .i64 q) := by
  obtain ⟨p, o, q, ha, hp, hq, c0⟩ := rowI h.row j hj
  simp only [Option.some.injEq, Addr.mk.injEq, and_true] at ha
  obtain ⟨rfl, rfl⟩ := ha
  rw [Nat.zero_add] at c0
  exact ⟨q, hp, hq, c0⟩
theorem putI {t : TypeId} {w : World} {B g n cap : Nat} {ps : List Int} (h : OwnG KI t w B (.slice (some ⟨g, 0, none⟩) n cap) ps) (hn : n = ps.length) (j : Nat) (hj : j < n) (q : Int) :
    OwnG KI t (w.setCell ⟨g, j, none⟩ (.int .i64 q)) B (.slice (some ⟨g, 0, none⟩) n cap) (ps.set j q) := by
  have := h.put hn j hj q
  rw [show j * KI.k = j from Nat.mul_one j] at this
  exact this

theorem holdsI {w : World} {g n cap B : Nat} {t : TypeId} {ps : List Int} (h : OwnG KI t w B (.slice (some ⟨g, 0, none⟩) n cap) ps) : Holds (Value.int .i64) w g 0 ps.toArray := by
  intro j hj
  have hj' : j < ps.length := by simpa using hj
  obtain ⟨q, _, hq, c⟩ := rowI0 h j hj'
  refine ⟨?_, h.frozen _⟩
  rw [Nat.zero_add, c]
  congr 2
  rw [getElem!_pos ps.toArray j hj]
  rw [List.getElem?_eq_getElem hj'] at hq
  simpa using (Option.some.inj hq).symm
theorem below_sort {w w0 : World} {g B n : Nat} {os : Array Obj} {d : Array Int} (hb : Below B w0 w) (hB : B ≤ w.heap.size) (hg : B ≤ g) : Below B w0 (grow (putRow (Value.int .i64) (Sort.ahead w n) g 0 d) os) :=
  hb.grown (grownBy_sortedI d) hB (fun k hk => by cases hk; exact hg)
theorem below_put {w w0 : World} {g B n : Nat} {d : Array Int} (hb : Below B w0 w) (hB : B ≤ w.heap.size) (hg : B ≤ g) : Below B w0 (putRow (Value.int .i64) (Sort.ahead w n) g 0 d) := by
  have h := below_sort (n := n) (os := #[]) (d := d) hb hB hg
  rw [grow_empty] at h
  exact h
theorem holds_sorted {w : World} {g n : Nat} {os : Array Obj} {zs : List Int} (hg : g < w.heap.size) (h : Holds (Value.int .i64) w g 0 zs.toArray) : Holds (Value.int .i64) (grow (putRow (Value.int .i64) (Sort.ahead w n) g 0 (zs.mergeSort fun x y => decide (x ≤ y)).toArray) os) g 0 (zs.mergeSort fun x y => decide (x ≤ y)).toArray := by
  refine holds_grow _ _ _ _ _ _ (by simpa [putRow, mapBlock] using hg) ?_
  exact holds_putRow _ _ _ _ zs.toArray _ (holds_ahead _ _ _ _ _ _ h) (by simp)
theorem sortTok (g n c : Nat) (zs : List Int) (w : World) (hn : n = zs.length) (hH : Holds (Value.int .i64) w g 0 zs.toArray) (hg : g < w.heap.size) (hl : n ≤ 1048576) :
    Calls Tryz.prog 55 #[.slice (some ⟨g, 0, none⟩) n c] w fun e w' => e = .returned (.tuple #[]) ∧ Holds (Value.int .i64) w' g 0 (zs.mergeSort fun x y => decide (x ≤ y)).toArray ∧ g < w'.heap.size ∧ (∀ B w0, Below B w0 w → B ≤ w.heap.size → B ≤ g → Below B w0 w') := by
  subst hn
  refine (Tryz.slices_Sort_int g 0 c zs w hH hg (by omega)).mono ?_
  rintro e w' ⟨rfl, m, os, rfl⟩
  exact ⟨rfl, holds_sorted hg hH, by simp [grow, putRow, mapBlock]; omega, fun B w0 h1 h2 h3 => below_sort h1 h2 h3⟩
theorem compTok (g n c : Nat) (zs : List Int) (w : World) (hn : n = zs.length) (hH : Holds (Value.int .i64) w g 0 zs.toArray) (hl : n ≤ 1048576) (hc : n ≤ c) :
    Calls Tryz.prog 56 #[.slice (some ⟨g, 0, none⟩) n c] w fun e w' => e = .returned (.slice (some ⟨g, 0, none⟩) (Lib.compact zs).length c) ∧ (∀ B w0, Below B w0 w → B ≤ w.heap.size → B ≤ g → Below B w0 w') := by
  subst hn
  refine (Tryz.slices_Compact_int g 0 c zs w hH (by omega) hc).mono ?_
  rintro e w' ⟨rfl, m, rfl⟩
  exact ⟨rfl, fun B w0 h1 h2 h3 => below_put h1 h2 h3⟩

set_option maxRecDepth 10000 in
set_option maxHeartbeats 2000000 in
theorem tokensDiffer_any (a : Option Addr) (n c : Nat) (ls : List Ls) (w : World) (hn : n = ls.length) (hB : RowG KLs w a ls) (hl : n ≤ 1048576) :
    Calls Tryz.prog 39 #[.slice a n c] w fun e w' => e = .returned (.bool (tokB ls)) ∧ Below w.heap.size w w' := by
  obtain ⟨i0, hi, hz0, hz1, hz2⟩ := info_parts Tryz.tyI.2.1
  have HB := hidP hB
  have HN := hidP hn
  have HTk := hidP (tok_compact ls n hn)
  clear hB hn
  go_enter Tryz.func39, Tryz.ntmps39
  go_wp2_with (refine wpList_make_full _ rfl (.tmp 7) (.tmp 7) 55 rfl w.heap.size 3 i0 _ 1 Tryz.tyI.1 hi hz0 hz1 .i64 .i64 n n n rfl rfl rfl rfl (by rw [hz2]; omega) (by unfold maxLen; omega) (Nat.le_refl _) ?_; intro w1 hown hgrow)
  have HO : Hid (OwnG KI 3 w1 w.heap.size (.slice (some ⟨w.heap.size, 0, none⟩) n n) ((ls.map Ls.k).take 0 ++ List.replicate ((ls.map Ls.k).length - 0) 0)) := by
    have hm := made_gen KI 0 (by show 0 < 1; omega) (.int .i64 0) rfl n
    rw [show n * 1 = n * KI.k from rfl, hm] at hown
    refine hidP ?_
    unfold OwnG
    rw [Nat.sub_zero, List.take_zero, List.nil_append, List.length_replicate, List.length_map, ← HN.out]; exact hown
  have HW : Hid (Below w.heap.size w w1) := (Below.refl _ w).grown hgrow (Nat.le_refl _) (fun k hk => by cases hk)
  clear hown hgrow
  go_loopw [4, 5, 11] (fun _ _ t11 wr => ∃ k : Nat, k ≤ n ∧ t11 = .int .i64 k ∧ OwnG KI 3 wr w.heap.size (.slice (some ⟨w.heap.size, 0, none⟩) n n) ((ls.map Ls.k).take k ++ List.replicate ((ls.map Ls.k).length - k) 0) ∧ Below w.heap.size w wr) (fun _ _ t11 _ => n - (intOf t11).toNat)
  case atStart => exact ⟨0, Nat.zero_le _, rfl, HO.out, HW.out⟩
  case round =>
    obtain ⟨k, hk, rfl, hown, hbel⟩ := hrel
    by_cases hlt : k < n
    · obtain ⟨p, o, q, rfl, hp, hq, c0, c1, c2, c3, c4, c5⟩ := rowLs HB.out k (by rw [← HN.out]; exact hlt)
      have d0 := (hbel.cell hp).trans c0
      have d1 := (hbel.cell hp).trans c1
      have d2 := (hbel.cell hp).trans c2
      have d3 := (hbel.cell hp).trans c3
      have d4 := (hbel.cell hp).trans c4
      have d5 := (hbel.cell hp).trans c5
      have hq' : (ls.map Ls.k)[k]? = some q.k := by rw [List.getElem?_map, hq]; rfl
      have hlen : n = ((ls.map Ls.k).take k ++ List.replicate ((ls.map Ls.k).length - k) 0).length := by rw [List.length_append, List.length_take, List.length_replicate, List.length_map]; have := HN.out; omega
      have hfr := hown.frozen k
      obtain ⟨q0, hgl, _, cg⟩ := rowI0 hown k (by rw [← hlen]; exact hlt)
      have HOw := hidP hown
      have HBel := hidP hbel
      have HQ := hidP hq'
      have HL := hidP hlen
      clear hown hbel c0 c1 c2 c3 c4 c5 hq hq' HO HW hlen
      have hput := putI HOw.out HL.out k hlt q.k
      rw [copy_stepG 0 (ls.map Ls.k) k q.k (by rw [List.length_map, ← HN.out]; exact hlt) HQ.out] at hput
      have HP := hidP hput
      clear hput HOw
      go_wp2_with fail
      go_roundw
      case rel => exact ⟨k + 1, by omega, by go_num, HP.out.alloc _, (HBel.out.setCell (Nat.le_refl _) _).alloc (by simp; omega) _⟩
      case measure => simp [intOf]; omega
    · have hkn : k = n := by omega
      have HO2 : Hid (OwnG KI 3 wr w.heap.size (.slice (some ⟨w.heap.size, 0, none⟩) n n) (ls.map Ls.k)) := by
        have e := HN.out
        rw [hkn, List.take_of_length_le (by rw [List.length_map]; omega), List.length_map, ← e, Nat.sub_self, List.replicate_zero, List.append_nil] at hown
        exact hidP hown
      have HBel : Hid (Below w.heap.size w wr) := hbel
      have hgl : w.heap.size < wr.heap.size := (OwnG.lt HO2.out w.heap.size rfl).2
      clear hown hbel HO HW
      go_wp2_with fail
      refine (sortTok w.heap.size n n (ls.map Ls.k) wr (by rw [List.length_map]; exact HN.out) (holdsI HO2.out) hgl hl).mono ?_
      rintro e w2 ⟨rfl, hH2, hgl2, hb2⟩
      have B2 := hidP (hb2 _ _ HBel.out HBel.out.size (Nat.le_refl _))
      have H2 := hidP hH2
      clear hH2 hb2 HBel HO2
      go_wp2_with fail
      refine (compTok w.heap.size n n _ w2 (by rw [List.length_mergeSort, List.length_map]; exact HN.out) H2.out hl (Nat.le_refl _)).mono ?_
      rintro e w3 ⟨rfl, hb3⟩
      have B3 := hidP (hb3 _ _ B2.out B2.out.size (Nat.le_refl _))
      clear hb3
      go_wp2_with fail
      go_ret
      exact ⟨ret_b HTk.out, B3.out⟩

set_option maxRecDepth 10000 in
set_option maxHeartbeats 4000000 in
/-- The program's BookOk. -/
theorem iBookOk_any (a : Option Addr) (n c : Nat) (T N : Int) (ls : List Ls) (w : World) (hn : n = ls.length) (hB : RowG KLs w a ls) (hl : n ≤ 1048576) (hst : ∀ q ∈ ls, q.t.size ≤ 9223372036854775807) :
    Calls Tryz.prog 13 #[.agg #[.slice a n c, .int .i64 T, .int .i64 N]] w fun e w' => e = .returned (.bool (bkB ls T N)) ∧ Below w.heap.size w w' := by
  have HL := hidP (fun W h => leasesOk_any a n c T N ls W hn (hB.later h) (by omega) hst)
  have HT := hidP (fun W h => tokensDiffer_any a n c ls W hn (hB.later h) hl)
  have hv : bkB ls T N = ((decide ((n : Int) ≤ 80) && ((decide (0 ≤ T) && decide (T ≤ 1000000000)) && (decide (0 ≤ N) && decide (N ≤ 1000000000)))) && (leasesF T N none ls && tokB ls)) := by
    unfold bkB
    rw [← hn]
    congr 2
    by_cases h : n ≤ 80
    · rw [decide_eq_true h, decide_eq_true (by omega)]
    · rw [decide_eq_false h, decide_eq_false (by omega)]
  rw [hv]
  clear hv hB hn hst
  generalize leasesF T N none ls = F at *
  generalize tokB ls = K at *
  cases h0 : decide ((n : Int) ≤ 80)
  · have h0' : decide (n ≤ 80) = false := decide_eq_false (by have := of_decide_eq_false h0; omega)
    cases h1 : decide (0 ≤ T) <;> cases h3 : decide (0 ≤ N)
    all_goals
      go_enter Tryz.func13, Tryz.ntmps13
      go_wp2_with fail
      go_ret
      exact ⟨rfl, alloc_below w _⟩
  · have h0' : decide (n ≤ 80) = true := decide_eq_true (by have := of_decide_eq_true h0; omega)
    cases h1 : decide (0 ≤ T) <;> cases h2 : decide (T ≤ 1000000000) <;> cases h3 : decide (0 ≤ N) <;> cases h4 : decide (N ≤ 1000000000)
    all_goals try
      (go_enter Tryz.func13, Tryz.ntmps13
       go_wp2_with fail
       go_ret
       exact ⟨rfl, alloc_below w _⟩)
    cases F
    · go_enter Tryz.func13, Tryz.ntmps13
      go_wp2_with fail
      refine (HL.out _ (alloc_below w _)).mono ?_
      rintro e w2 ⟨rfl, hb2⟩
      have HB2 := hidP hb2
      clear hb2
      go_wp2_with fail
      go_ret
      exact ⟨rfl, (alloc_below w _).trans (HB2.out.mono (by simp))⟩
    · go_enter Tryz.func13, Tryz.ntmps13
      go_wp2_with fail
      refine (HL.out _ (alloc_below w _)).mono ?_
      rintro e w2 ⟨rfl, hb2⟩
      have hc : w2.cell? ⟨w.heap.size, 0, none⟩ = some (.slice a n c) := (hb2.cell (by simp)).trans (by simp [go_sem])
      have HB2 := hidP ((alloc_below w _).trans (hb2.mono (by simp)))
      clear hb2
      go_wp2_with fail
      refine (HT.out _ HB2.out).mono ?_
      rintro e w3 ⟨rfl, hb3⟩
      have HB3 := hidP (HB2.out.trans (hb3.mono HB2.out.size))
      clear hb3
      go_wp2_with fail
      go_ret
      exact ⟨rfl, HB3.out⟩

end Go.Proofs.YtddnofonodgneaaGreatDoor
