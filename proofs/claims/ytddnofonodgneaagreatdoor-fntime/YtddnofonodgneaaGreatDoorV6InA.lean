/-
  slices.Insert of one lease: wherever, whatever room there is.
-/
import Derived.Test.YtddnofonodgneaaGreatDoorV6InG
namespace Go.Proofs.YtddnofonodgneaaGreatDoor
open Go.RowKit

theorem row_blk {w : World} {vb : Nat} {q : Ls} {t : TypeId} (hv : w.heap[vb]? = some (.cells (KLs.cs q).toArray t)) : RowG KLs w (some ⟨vb, 0, none⟩) [q] := fun j hj => by
  obtain ⟨hvc, _, _, hvl⟩ := blk_facts hv
  have hj0 : j = 0 := by simp at hj; omega
  subst hj0
  refine ⟨vb, 0, q, rfl, hvl, rfl, fun i v h => ?_⟩
  rw [Nat.zero_mul, Nat.zero_add]
  exact hvc i v h

set_option maxRecDepth 100000 in
set_option maxHeartbeats 2000000 in
/-- Behind the last. -/
theorem insert_end (a : Option Addr) (n cap B vb : Nat) (ps : List Ls) (q : Ls) (w : World) (hn : n = ps.length) (hl : n ≤ 1048576) (h : OwnG KLs 35 w B (.slice a n cap) ps)
    (hv : w.heap[vb]? = some (.cells (KLs.cs q).toArray 35)) (hB : B ≤ w.heap.size) :
    Calls Tryz.prog 27 #[.slice a n cap, .int .i64 n, .slice (some ⟨vb, 0, none⟩) 1 1] w fun e w' => ∃ a' c', e = .returned (.slice a' (n + 1) c') ∧ OwnG KLs 35 w' B (.slice a' (n + 1) c') (ps ++ [q]) ∧ w.grownBy w' (Value.slice a n cap).ownBlock := by
  have hcap := h.caps
  have hnc : n ≤ cap := by omega
  have hc9 : cap ≤ 9223372036854775807 := hcap.2.2.1
  have hsrc := hidP (src_rowG Tryz.tyLs.1 (K := KLs) 1 1 (by show 0 < 6; omega) rfl (row_blk hv) (fun h => by cases h))
  have HO := hidP h
  have HN := hidP hn
  have HB := hidP hB
  have hzz : ((n : Int) == (n : Int)) = true := by simp
  rcases h.2 with ⟨hv', hn0⟩ | ⟨g, c', cur, hv', hb, hg, _⟩
  · simp at hv'
    obtain ⟨rfl, rfl, rfl⟩ := hv'
    clear h hn hv hB hcap hn0
    go_enter Tryz.func27, Tryz.ntmps27
    go_wp2_with (at_builtin; refine wpList_appG Tryz.tyLs _ rfl (.tmp 23) (.tmp 24) 24 rfl B none 0 0 1 ps [q] (.slice (some ⟨vb, 0, none⟩) 1 1) rfl HN.out rfl HO.out rfl hsrc.out (by omega) HB.out ?_; intro a' c' w' ho' hg' hx')
    go_ret
    exact ⟨_, _, rfl, ho', hg'⟩
  · simp at hv'
    obtain ⟨rfl, e1, e2⟩ := hv'
    clear h hn hv hB hcap hb hg e1 e2
    go_enter Tryz.func27, Tryz.ntmps27
    go_wp2_with (at_builtin; refine wpList_appG Tryz.tyLs _ rfl (.tmp 23) (.tmp 24) 24 rfl B (some ⟨g, 0, none⟩) n cap 1 ps [q] (.slice (some ⟨vb, 0, none⟩) 1 1) rfl HN.out rfl HO.out rfl hsrc.out (by omega) HB.out ?_; intro a' c' w' ho' hg' hx')
    all_goals (go_ret; exact ⟨_, _, rfl, ho', hg'⟩)

set_option maxHeartbeats 1000000 in
theorem insert_any (a : Option Addr) (n cap B vb i : Nat) (ps : List Ls) (q : Ls) (w : World) (hn : n = ps.length) (hi : i ≤ n) (hl : n ≤ 1048576) (h : OwnG KLs 35 w B (.slice a n cap) ps)
    (hv : w.heap[vb]? = some (.cells (KLs.cs q).toArray 35)) (hvb : ∀ k, (Value.slice a n cap).ownBlock = some k → vb ≠ k) (hB : B ≤ w.heap.size) :
    Calls Tryz.prog 27 #[.slice a n cap, .int .i64 i, .slice (some ⟨vb, 0, none⟩) 1 1] w fun e w' => ∃ a' c', e = .returned (.slice a' (n + 1) c') ∧ OwnG KLs 35 w' B (.slice a' (n + 1) c') (ps.take i ++ [q] ++ ps.drop i) ∧ w.grownBy w' (Value.slice a n cap).ownBlock := by
  have hk6 : KLs.k = 6 := rfl
  by_cases hin : i = n
  · subst hin
    refine (insert_end a i cap B vb ps q w hn hl h hv hB).mono ?_
    rintro e w' ⟨a', c', he, ho, hg⟩
    refine ⟨a', c', he, ?_, hg⟩
    rw [hn, List.take_length, List.drop_length, List.append_nil]
    rw [hn] at ho
    exact ho
  · have hi' : i < n := by omega
    rcases h.2 with ⟨hv', hn0⟩ | ⟨g, c', cur, hv', hb, hg, _⟩
    · simp at hv'
      obtain ⟨_, h0, _⟩ := hv'
      omega
    · simp at hv'
      obtain ⟨rfl, e1, e2⟩ := hv'
      have hgl := (own_blk h).2
      by_cases hroom : n + 1 ≤ cap
      · refine (insert_room g n cap B vb i ps q w hn hi' hl h hv (hvb g rfl) hroom).mono ?_
        rintro e w' ⟨he, hw⟩
        subst hw
        refine ⟨_, _, he, ?_, setCells_grown _ _ _ (setCells_grown _ _ _ (grown_of' (Below.refl _ w).drew (some g)))⟩
        obtain ⟨R, raw, hR⟩ := OwnG.rawMore (OwnG.drewG h) hi hroom
        have := ins_rawA raw (by omega) hR q
        rw [← hn, hk6] at this
        exact this
      · refine (insert_grow g n cap B vb i ps q w hn hi' hl h hv (by omega)).mono ?_
        rintro e w' ⟨he, hw⟩
        subst hw
        refine ⟨_, _, he, ?_, ?_⟩
        · have htl : (gflat KLs (ps.take i)).length = i * 6 := by rw [gflat_len, List.length_take, Nat.min_eq_left (by omega)]; rfl
          have hG := grownCap_ge w (n + 1) cap 35
          have hGm := grownCap_le_maxLen w (n + 1) cap 35 (by unfold maxLen; omega)
          have hsz : (insRow w i n cap ps).size = grownCap w (n + 1) cap 35 * 6 := by
            unfold insRow
            rw [Array.size_append, Array.size_append, zeros_size, zeros_size, List.size_toArray, htl]
            omega
          have hszl : (insRow w i n cap ps).toList.length = grownCap w (n + 1) cap 35 * 6 := by rw [Array.length_toList, hsz]
          have raw : ((w.alloc (.cells (insRow w i n cap ps) 35)).drew.drew).ownsRow B 35 KLs.k (.slice (some ⟨w.heap.size, 0, none⟩) (ps.length + 1) (grownCap w (n + 1) cap 35)) (ps.length + 1) ((insRow w i n cap ps).toList.take ((ps.length + 1) * 6)) :=
            ⟨by rw [List.length_take, hszl]; show min ((ps.length + 1) * 6) _ = (ps.length + 1) * 6; omega, Or.inr ⟨w.heap.size, _, insRow w i n cap ps, rfl, hB, heap_alloc_new w _, by omega, hGm, hsz, rfl⟩⟩
          have hR : ((insRow w i n cap ps).toList.take ((ps.length + 1) * 6)).take (i * KLs.k) = gflat KLs (ps.take i) := by
            rw [List.take_take]
            have : min (i * KLs.k) ((ps.length + 1) * 6) = (gflat KLs (ps.take i)).length := by rw [htl]; show min (i * 6) _ = i * 6; omega
            rw [this]
            unfold insRow
            rw [Array.toList_append, Array.toList_append, List.append_assoc]
            exact List.take_left
          have := ins_rawB raw (by omega) hR q
          rw [← hn, hk6] at this
          rw [drew_setCells]
          exact this
        · refine grown_of' ?_ _
          rw [setCells_puts, setCells_puts]
          exact puts_below (Nat.le_refl _) _ _ _ (puts_below (Nat.le_refl _) _ _ _ (alloc_below w _).drew).drew

end Go.Proofs.YtddnofonodgneaaGreatDoor
