/-
  The program's byPrefix: a map of the call's own with each block under its prefix.
-/
import Derived.Test.YtdbcdichmmcnbaaGreatZK16
import Derived.Test.YtdbcdichmmcnbaaGreatZK21
namespace Go.Proofs.YtdbcdichmmcnbaaGreat
open Go.RowKit Go.Maps

theorem bsDrop {bs : List Bk} {k : Nat} {q : Bk} (h : bs[k]? = some q) : bs.take (k + 1) = bs.take k ++ [q] := by rw [List.take_add_one, h]; rfl

set_option maxRecDepth 100000 in
set_option maxHeartbeats 2000000 in
theorem byPrefix_any (a : Option Addr) (n c : Nat) (bs : List Bk) (w : World) (hn : n = bs.length) (hB : RowG KBk w a bs) (hl : n ≤ 1000) (hw : ∀ q ∈ bs, bitW q.p) (hd : bs.Pairwise (fun q r => q.p ≠ r.p)) :
    Calls Tryz.prog 38 #[.slice a n c] w fun e w' => e = .returned (.map (some w.heap.size)) ∧ (∃ D : DataW Unit, w'.ownsMap Tryz.prog 31 rdB w.heap.size n D ∧ HasB D bs) ∧ Below w.heap.size w w' := by
  have hmm : ∀ W : World, (Instr.makeMap 80 (some (.int .i64 (n : Int)))).run Tryz.prog W = .ok (.map (some W.heap.size)) (W.alloc (.map #[] 0)) := fun W => by
    simp [Instr.makeMap, go_sem]
  have HB := hidP hB
  have HN := hidP hn
  have HW := hidP hw
  have HD := hidP hd
  clear hB hn hw hd
  go_enter Tryz.func38, Tryz.ntmps38
  go_wp2_with fail
  have m1 : (w.alloc (.map #[] 0)).ownsMap Tryz.prog 31 rdB w.heap.size 0 (.map [] : DataW Unit) := World.ownsMap_made _ _ _ _
  have b1 : Below w.heap.size w (w.alloc (.map #[] 0)) := (Below.refl _ _).alloc (Nat.le_refl _) _
  have HM1 := hidP (And.intro m1 b1)
  generalize w.alloc (.map #[] 0) = W1 at *
  clear m1 b1
  go_loopw [5, 11] (fun _ t11 wr => ∃ (k : Nat) (D : DataW Unit), k ≤ n ∧ t11 = .int .i64 k ∧ wr.ownsMap Tryz.prog 31 rdB w.heap.size k D ∧ HasB D (bs.take k) ∧ Below w.heap.size w wr) (fun _ t11 _ => n - (intOf t11).toNat)
  case atStart => exact ⟨0, _, Nat.zero_le _, rfl, HM1.out.1, by rw [List.take_zero]; exact HasB.nil, HM1.out.2⟩
  case round =>
    obtain ⟨k, D, hk, rfl, hm, hs, hbel⟩ := hrel
    by_cases hlt : k < n
    · obtain ⟨p, o, q, rfl, hp, hq, c0, c1, c2, c3, c4⟩ := rowBk HB.out k (by rw [← HN.out]; exact hlt)
      have d0 := (hbel.cell hp).trans c0
      have d1 := (hbel.cell hp).trans c1
      have d2 := (hbel.cell hp).trans c2
      have d3 := (hbel.cell hp).trans c3
      have d4 := (hbel.cell hp).trans c4
      have hwq := HW.out q (List.mem_of_getElem? hq)
      have hkey : keyOf Tryz.prog 31 (.agg #[.bool q.p.s, .int .i64 q.p.H.toInt, .int .i64 q.p.L.toInt, .int .i64 q.p.b]) = some (.string (pfB q.p)) := keyOf_pf hwq
      have hrd : rdB (.agg #[.bool q.p.s, .int .i64 q.p.H.toInt, .int .i64 q.p.L.toInt, .int .i64 q.p.b, .string q.t]) = some (dtB q, []) := rdB_mk q
      have HS := hidP (hs.put q hwq (fun r hr e => by
        have hpw := HD.out
        rw [List.pairwise_iff_getElem] at hpw
        obtain ⟨j, hj, rfl⟩ := List.mem_take_iff_getElem.1 hr
        obtain ⟨hk2, hq2⟩ := List.getElem?_eq_some_iff.1 hq
        have := hpw j k (by omega) hk2 (by omega)
        rw [hq2] at this
        exact this e))
      have HT := hidP (bsDrop hq)
      have HM := hidP (And.intro hm hbel)
      clear c0 c1 c2 c3 c4 hq hs hm hbel hwq
      go_wp2_with (at_mapUpdate; refine wpList_mapUpdate_own _ rfl _ _ _ 80 rfl 31 38 Tryz.keyPf Tryz.underlying80 rdB w.heap.size k _ rfl (HM.out.1.alloc _) (by unfold maxLen; omega) _ _ _ rfl rfl hkey _ [] hrd ?_; intro w5 hown5 hgrow5)
      have HF := hidP (And.intro hown5 (Below.grown (HM.out.2.alloc HM.out.2.size _) hgrow5 (by have := HM.out.2.size; simp; omega) (fun j hj => by cases hj; exact Nat.le_refl _)))
      clear hown5 hgrow5
      go_roundw
      case rel => exact ⟨k + 1, _, by omega, by go_num, HF.out.1, by rw [HT.out]; exact HS.out, HF.out.2⟩
      case measure => simp [intOf]; omega
    · have hkn : k = n := by omega
      subst hkn
      have HS := hidP (show HasB D bs from by rw [List.take_of_length_le (by have := HN.out; omega)] at hs; exact hs)
      have HM := hidP (And.intro hm hbel)
      clear hs hm hbel
      go_wp2_with fail
      go_ret
      exact ⟨rfl, ⟨D, HM.out.1, HS.out⟩, HM.out.2⟩

end Go.Proofs.YtdbcdichmmcnbaaGreat
