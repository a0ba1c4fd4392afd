/-
  slices.Insert of one lease.
-/
import Derived.Test.YtddnofonodgneaaGreatDoorX6Ins
import Derived.Test.YtddnofonodgneaaGreatDoorV6Del
namespace Go.Proofs.YtddnofonodgneaaGreatDoor
open Go.RowKit

theorem Tryz.sizeLs (w : World) : (sizeOf 35).run Tryz.prog w = .ok 6 w := by
  obtain ⟨i0, hi, hz0, hz1, hz2⟩ := info_parts Tryz.tyLs.2.1
  simp [sizeOf, typeInfo, hi]
  exact hz1
theorem Tryz.szLs : (Tryz.prog.info? 35).map (·.size) = some 6 := by
  obtain ⟨i0, hi, hz0, hz1, hz2⟩ := info_parts Tryz.tyLs.2.1
  rw [hi]; simp; exact hz1
theorem ls_len (q : Ls) : (KLs.cs q).length = 6 := KLs.len q
/-- What is known of the new one's block. -/
theorem blk_facts {w : World} {vb : Nat} {q : Ls} {t : TypeId} (hv : w.heap[vb]? = some (.cells (KLs.cs q).toArray t)) :
    (∀ j v, (KLs.cs q)[j]? = some v → w.cell? ⟨vb, j, none⟩ = some v) ∧ w.shape? vb = some (t, 6) ∧ (∀ j, w.frozen? ⟨vb, j, none⟩ = false) ∧ vb < w.heap.size := by
  have hl := ls_len q
  refine ⟨fun j v h => ?_, ?_, fun j => ?_, ?_⟩
  · simp [World.cell?, hv, h]
  · simp [World.shape?, hv, hl]
  · simp [World.frozen?, hv]
  · rcases Nat.lt_or_ge vb w.heap.size with h' | h'
    · exact h'
    · rw [Array.getElem?_eq_none h'] at hv; cases hv
theorem own_blk {t : TypeId} {w : World} {B g n cap : Nat} {ps : List Ls} (h : OwnG KLs t w B (.slice (some ⟨g, 0, none⟩) n cap) ps) : w.shape? g = some (t, cap * 6) ∧ g < w.heap.size := by
  rcases h.2 with ⟨hv, _⟩ | ⟨g', c', cur, hv, hb, hg, h1, h2, h3, h4⟩
  · simp at hv
  · simp at hv
    obtain ⟨e1, _, e2⟩ := hv
    subst e1 e2
    refine ⟨by simp [World.shape?, hg]; exact h3, ?_⟩
    rcases Nat.lt_or_ge g w.heap.size with h' | h'
    · exact h'
    · rw [Array.getElem?_eq_none h'] at hg; cases hg
theorem own_cells {t : TypeId} {w : World} {B g n cap : Nat} {ps : List Ls} (h : OwnG KLs t w B (.slice (some ⟨g, 0, none⟩) n cap) ps) (i : Nat) (hi : i ≤ n) : ∀ j v, (gflat KLs (ps.drop i))[j]? = some v → w.cell? ⟨g, i * 6 + j, none⟩ = some v := fun j v hv => by
  have hn := h.caps.1
  subst hn
  have hlj : j < (gflat KLs (ps.drop i)).length := by
    rcases Nat.lt_or_ge j (gflat KLs (ps.drop i)).length with h' | h'
    · exact h'
    · rw [List.getElem?_eq_none h'] at hv; cases hv
  rw [gflat_len, List.length_drop] at hlj
  have hlj' : j < (ps.length - i) * 6 := hlj
  have e : gflat KLs ps = gflat KLs (ps.take i) ++ gflat KLs (ps.drop i) := by rw [← gflat_app, List.take_append_drop]
  have hl : (gflat KLs (ps.take i)).length = i * 6 := by rw [gflat_len, List.length_take, Nat.min_eq_left hi]; rfl
  have := World.ownsRow.cellAt h (i * 6 + j) (show i * 6 + j < ps.length * 6 by omega)
  rw [this, e, List.getElem?_append_right (by omega), hl, Nat.add_sub_cancel_left]
  exact hv

set_option maxRecDepth 100000 in
set_option maxHeartbeats 4000000 in
/-- There is room: in place. -/
theorem insert_room (g n cap B vb i : Nat) (ps : List Ls) (q : Ls) (w : World) (hn : n = ps.length) (hi : i < n) (hl : n ≤ 1048576) (h : OwnG KLs 35 w B (.slice (some ⟨g, 0, none⟩) n cap) ps)
    (hv : w.heap[vb]? = some (.cells (KLs.cs q).toArray 35)) (hvb : vb ≠ g) (hroom : n + 1 ≤ cap) :
    Calls Tryz.prog 27 #[.slice (some ⟨g, 0, none⟩) n cap, .int .i64 i, .slice (some ⟨vb, 0, none⟩) 1 1] w fun e w' => e = .returned (.slice (some ⟨g, 0, none⟩) (n + 1) cap) ∧ w' = (w.drew.setCells g ((i + 1) * 6) (gflat KLs (ps.drop i))).setCells g (i * 6) (KLs.cs q) := by
  have hc9 : cap ≤ 9223372036854775807 := h.caps.2.2.1
  obtain ⟨hvc, hvs, hvf, hvl⟩ := blk_facts hv
  obtain ⟨hgs, hgl⟩ := own_blk h
  have hgc := own_cells h i (by omega)
  have hgi := fun j (hj : j < cap * 6) => OwnG.cellIn h j hj
  have hgf := fun j => OwnG.frozen h j
  have hov : ∀ lb cb, (callFunc 49 #[.slice (some ⟨vb, 0, none⟩) 1 1, .slice (some ⟨g, (i + 1) * 6, none⟩) lb cb]).run Tryz.prog w = .ok (.value (.bool false)) w := fun lb cb => by
    rw [run_callFunc_extern Tryz.func49 (by kernel_rfl) (by kernel_rfl) (by kernel_rfl) (e := Extern.SlicesOverlaps.overlaps #[24, 24] #[4]) (by kernel_rfl),
      Lib.run_overlaps_apart w 24 4 35 Tryz.tyLs.1 6 Tryz.sizeLs ⟨vb, 0, none⟩ ⟨g, (i + 1) * 6, none⟩ 1 1 lb cb hvb _ _ 6 (cap * 6) hvs hgs (by omega) (hvf 0) (hvf 6)]
    rfl
  have hdl : (gflat KLs (ps.drop i)).length = (n - i) * 6 := by rw [gflat_len, List.length_drop, hn]; rfl
  have mixed : Tryz.prog.follows Departure.mixedOrders = true := by kernel_rfl
  have hz2 : ¬ ((i : Int) = (n : Int)) := by omega
  have hz3 : ¬ ((cap : Int) < (n : Int) + 1) := by omega
  have hb1 : (0 : Int) ≤ (i : Int) + 1 := by omega
  have hin : i ≤ n := by omega
  have htn : ((i : Int) + 1).toNat = i + 1 := by omega
  have hb2 : ¬ (cap = i + 1) := by omega
  have hb3 : (i : Int) ≤ (n : Int) + 1 := by omega
  have hb4 : ¬ (cap = i) := by omega
  have hw1 : IntKind.i64.wrap ((i : Int) + 1) = (i : Int) + 1 := by rw [IntKind.wrap_i64]; omega
  have hb5 : (i : Int) + 1 ≤ (n : Int) + 1 := by omega
  have hcp1 : ∀ ty dc sc, (Builtin.copy_ #[24, 24] ty #[.slice (some ⟨g, (i + 1) * 6, none⟩) (n - i) dc, .slice (some ⟨g, i * 6, none⟩) (n + 1 - i) sc]).run Tryz.prog w.drew = .ok (goInt ((n - i : Nat) : Int)) (w.drew.setCells g ((i + 1) * 6) (gflat KLs (ps.drop i))) := fun ty dc sc =>
    run_copyG w.drew _ _ ty 35 6 (n - i) g ((i + 1) * 6) (n - i) dc ⟨g, i * 6, none⟩ (n + 1 - i) sc (gflat KLs (ps.drop i)) Tryz.tyLs.1 Tryz.szLs (by simp only [Nat.min_def]; split <;> omega) hdl
      (fun j v hj => by rw [Addr.add_lit]; exact hgc j v hj)
      (fun j hj => hgi _ (by rw [hdl] at hj; omega)) (fun j _ => hgf _) (gflat_one KLs _)
  obtain ⟨W1, hW1⟩ : ∃ W1, W1 = w.drew.setCells g ((i + 1) * 6) (gflat KLs (ps.drop i)) := ⟨_, rfl⟩
  have hsp1 : ∀ k, k < cap * 6 → (W1.cell? ⟨g, k, none⟩).isSome = true := fun k hk => by
    rw [hW1]
    exact isSome_setCells g (gflat KLs (ps.drop i)) ((i + 1) * 6) w.drew (fun j hj => hgi ((i + 1) * 6 + j) (by rw [hdl] at hj; omega)) k (hgi k hk)
  have hcp2 : ∀ (W : World), (∀ x, W.cell? x = W1.cell? x) → (∀ x, W.frozen? x = W1.frozen? x) → ∀ ty dc, (Builtin.copy_ #[24, 24] ty #[.slice (some ⟨g, i * 6, none⟩) (n + 1 - i) dc, .slice (some ⟨vb, 0, none⟩) 1 1]).run Tryz.prog W = .ok (goInt ((1 : Nat) : Int)) (W.setCells g (i * 6) (KLs.cs q)) := fun W hWc hWf ty dc =>
    run_copyG W _ _ ty 35 6 1 g (i * 6) (n + 1 - i) dc ⟨vb, 0, none⟩ 1 1 (KLs.cs q) Tryz.tyLs.1 Tryz.szLs (by simp only [Nat.min_def]; split <;> omega) (ls_len q)
      (fun j v hj => by
        rw [Addr.add_lit, Nat.zero_add, hWc, hW1, World.cell?_setCells_out g _ _ _ _ (fun h _ => absurd h hvb)]
        exact hvc j v hj)
      (fun j hj => by rw [hWc]; exact hsp1 _ (by rw [ls_len] at hj; omega)) (fun j hj => by rw [hWf, hW1, World.frozen?_setCells]; exact hgf _) (KLs.one q)
  rw [← hW1] at hcp1
  have HN := hidP (And.intro hn h)
  clear hn h hgc hgi hgf hvc hvs hvf hgs hsp1 hv hdl
  go_enter Tryz.func27, Tryz.ntmps27
  go_wp2_with (simp only [hov])
  go_region_law_o (refine step_copy_runI rfl _ _ 24 24 rfl _ _ (by simp [Act.eval, Act.put]) (by simp [Act.eval, Act.put]) (hcp1 _ _ _) ?_)
  go_wp2_with (at_builtin; refine wpList_copy_runI _ rfl _ _ 24 24 rfl _ _ rfl rfl (hcp2 _ (fun _ => rfl) (fun _ => rfl) _ _) ?_)
  go_ret
  first | exact ⟨rfl, rfl⟩ | exact ⟨rfl, by rw [hW1]⟩

end Go.Proofs.YtddnofonodgneaaGreatDoor
