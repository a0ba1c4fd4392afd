/-
  slices.Insert of one lease, where there is no room.
-/
import Derived.Test.YtddnofonodgneaaGreatDoorV6Ins
namespace Go.Proofs.YtddnofonodgneaaGreatDoor
open Go.RowKit

theorem alloc_drew (w : World) (o : Obj) : (w.alloc o).drew = w.drew.alloc o := rfl
theorem cell_drew (w : World) (x : Addr) : w.drew.cell? x = w.cell? x := rfl
theorem frz_drew (w : World) (x : Addr) : w.drew.frozen? x = w.frozen? x := rfl
def zLs : Value := .agg #[.bool false, .int .i64 0, .int .i64 0, .string ⟨#[]⟩, .int .i64 0, .int .i64 0]
theorem zeros_size (m : Nat) : (Builtin.zeroCells zLs.cells m).size = m * 6 := by simp [Builtin.zeroCells, zLs, Value.cells]
def insRow (w : World) (i n cap : Nat) (ps : List Ls) : Array Value := (gflat KLs (ps.take i)).toArray ++ Builtin.zeroCells zLs.cells (n + 1 - i) ++ Builtin.zeroCells zLs.cells (grownCap w (n + 1) cap 35 - (n + 1))

set_option maxRecDepth 100000 in
set_option maxHeartbeats 2000000 in
/-- There is no room: a new row. -/
theorem insert_grow (g n cap B vb i : Nat) (ps : List Ls) (q : Ls) (w : World) (hn : n = ps.length) (hi : i < n) (hl : n ≤ 1048576) (h : OwnG KLs 35 w B (.slice (some ⟨g, 0, none⟩) n cap) ps)
    (hv : w.heap[vb]? = some (.cells (KLs.cs q).toArray 35)) (hroom : cap < n + 1) :
    Calls Tryz.prog 27 #[.slice (some ⟨g, 0, none⟩) n cap, .int .i64 i, .slice (some ⟨vb, 0, none⟩) 1 1] w fun e w' => e = .returned (.slice (some ⟨w.heap.size, 0, none⟩) (n + 1) (grownCap w (n + 1) cap 35)) ∧
      w' = (((w.alloc (.cells (insRow w i n cap ps) 35)).drew.setCells w.heap.size (i * 6) (KLs.cs q)).drew).setCells w.heap.size ((i + 1) * 6) (gflat KLs (ps.drop i)) := by
  obtain ⟨i0, hi0, hz0, hzs, hzb⟩ := info_parts Tryz.tyLs.2.1
  have hzs' : i0.size = 6 := hzs
  have hnc : n ≤ cap := by have := h.caps.2.1; omega
  obtain ⟨hvc, hvs, hvf, hvl⟩ := blk_facts hv
  obtain ⟨hgs, hgl⟩ := own_blk h
  have hgc := own_cells h i (by omega)
  have hg0 := own_cells (OwnG.cut h i (by omega)) 0 (by omega)
  have hdl : (gflat KLs (ps.drop i)).length = (n - i) * 6 := by rw [gflat_len, List.length_drop, hn]; rfl
  have htl : (gflat KLs (ps.take i)).length = i * 6 := by rw [gflat_len, List.length_take, Nat.min_eq_left (by omega)]; rfl
  have hkk : (n : Int) + 1 - (i : Int) = ((n + 1 - i : Nat) : Int) := by omega
  have hik : i + (n + 1 - i) = n + 1 := by omega
  have hold : (Builtin.firstCells i0.size i (.slice (some ⟨g, 0, none⟩) i cap)).run Tryz.prog w.drew = .ok (gflat KLs (ps.take i)).toArray w.drew := by
    rw [hzs']
    exact run_firstCells_some w.drew 6 i ⟨g, 0, none⟩ i cap (gflat KLs (ps.take i)) htl (fun j v hj => by
      rw [Addr.add_lit]
      have := hg0 j v (by rw [List.drop_zero]; exact hj)
      rw [Nat.zero_mul] at this
      exact this)
  have hrz : ∀ ty, (Builtin.append_ #[24, 3] ty #[.slice (some ⟨g, 0, none⟩) i cap, .int .i64 ((n : Int) + 1 - (i : Int))]).run Tryz.prog w =
      .ok (.slice (some ⟨w.heap.size, 0, none⟩) (n + 1) (grownCap w (n + 1) cap 35)) (w.drew.alloc (.cells (insRow w i n cap ps) 35)) := fun ty => by
    have h := Lib.run_append_grow_zeros w 24 3 ty 35 i0 _ .i64 .i64 Tryz.tyLs.1 Tryz.underlying3 hi0 hz0 (some ⟨g, 0, none⟩) i cap (gflat KLs (ps.take i)) hold (n + 1 - i) (by omega) (by omega) (by omega) (by omega) (by rw [hzb]; omega) (by rw [hzb, hik]; exact growslice_fits hroom (by omega))
    rw [hik] at h
    rw [hkk]
    exact h
  obtain ⟨G, hG⟩ : ∃ G, G = grownCap w (n + 1) cap 35 := ⟨_, rfl⟩
  obtain ⟨ROW, hROW⟩ : ∃ ROW : Array Value, ROW = insRow w i n cap ps := ⟨_, rfl⟩
  rw [← hG] at hrz ⊢
  rw [← hROW] at hrz ⊢
  have hRl : (n + 1) * 6 ≤ ROW.size := by
    rw [hROW]
    unfold insRow
    rw [Array.size_append, Array.size_append, zeros_size, zeros_size, List.size_toArray, htl]
    omega
  obtain ⟨W1, hW1⟩ : ∃ W1, W1 = w.drew.alloc (.cells ROW 35) := ⟨_, rfl⟩
  rw [← hW1] at hrz
  have hN : ∀ j, j < (n + 1) * 6 → (W1.cell? ⟨w.heap.size, j, none⟩).isSome = true := fun j hj => by
    rw [hW1, World.cell?_alloc_at (w := w.drew) ROW _ w.heap.size j rfl, Array.getElem?_eq_getElem (by omega)]; rfl
  have hNf : ∀ j, W1.frozen? ⟨w.heap.size, j, none⟩ = false := fun j => by rw [hW1]; exact World.frozen?_alloc_at (w := w.drew) ROW _ w.heap.size j rfl
  have hOb : ∀ j v, w.cell? ⟨g, j, none⟩ = some v → W1.cell? ⟨g, j, none⟩ = some v := fun j v h => by rw [hW1, World.cell?_alloc_past (w := w.drew) _ g j hgl]; exact h
  have hOv : ∀ j v, w.cell? ⟨vb, j, none⟩ = some v → W1.cell? ⟨vb, j, none⟩ = some v := fun j v h => by rw [hW1, World.cell?_alloc_past (w := w.drew) _ vb j hvl]; exact h
  have hcpA : ∀ (W : World), (∀ x, W.cell? x = W1.cell? x) → (∀ x, W.frozen? x = W1.frozen? x) → ∀ ty dc, (Builtin.copy_ #[24, 24] ty #[.slice (some ⟨w.heap.size, i * 6, none⟩) (n + 1 - i) dc, .slice (some ⟨vb, 0, none⟩) 1 1]).run Tryz.prog W = .ok (goInt ((1 : Nat) : Int)) (W.setCells w.heap.size (i * 6) (KLs.cs q)) := fun W hWc hWf ty dc =>
    run_copyG W _ _ ty 35 6 1 w.heap.size (i * 6) (n + 1 - i) dc ⟨vb, 0, none⟩ 1 1 (KLs.cs q) Tryz.tyLs.1 Tryz.szLs (by simp only [Nat.min_def]; split <;> omega) (ls_len q)
      (fun j v hj => by rw [Addr.add_lit, Nat.zero_add, hWc]; exact hOv _ v (hvc j v hj))
      (fun j hj => by rw [hWc]; exact hN _ (by rw [ls_len] at hj; omega)) (fun j hj => by rw [hWf]; exact hNf _) (KLs.one q)
  have hGn : n + 1 ≤ G := by rw [hG]; exact grownCap_ge w _ _ _
  have hG63 : G ≤ 9223372036854775807 := by
    have := grownCap_le_maxLen w (n + 1) cap 35 (by unfold maxLen; omega)
    rw [← hG] at this
    unfold maxLen at this
    omega
  have hGi : ¬ (G = i) := by omega
  have hGim : ¬ (G = i + 1) := by omega
  have hci : ¬ (cap = i) := by omega
  have hbN : g ≠ w.heap.size := by omega
  have hcpB : ∀ (W : World), (∀ x, W.cell? x = (W1.setCells w.heap.size (i * 6) (KLs.cs q)).cell? x) → (∀ x, W.frozen? x = (W1.setCells w.heap.size (i * 6) (KLs.cs q)).frozen? x) → ∀ ty dc sc, (Builtin.copy_ #[24, 24] ty #[.slice (some ⟨w.heap.size, (i + 1) * 6, none⟩) (n - i) dc, .slice (some ⟨g, i * 6, none⟩) (n - i) sc]).run Tryz.prog W = .ok (goInt ((n - i : Nat) : Int)) (W.setCells w.heap.size ((i + 1) * 6) (gflat KLs (ps.drop i))) := fun W hWc hWf ty dc sc =>
    run_copyG W _ _ ty 35 6 (n - i) w.heap.size ((i + 1) * 6) (n - i) dc ⟨g, i * 6, none⟩ (n - i) sc (gflat KLs (ps.drop i)) Tryz.tyLs.1 Tryz.szLs (by simp only [Nat.min_def]; split <;> omega) hdl
      (fun j v hj => by
        rw [Addr.add_lit, hWc, World.cell?_setCells_out _ _ _ _ _ (fun h _ => absurd h hbN)]
        exact hOb _ v (hgc j v hj))
      (fun j hj => by
        rw [hWc]
        exact isSome_setCells w.heap.size (KLs.cs q) (i * 6) W1 (fun t ht => hN (i * 6 + t) (by rw [ls_len] at ht; omega)) ((i + 1) * 6 + j) (hN _ (by rw [hdl] at hj; omega)))
      (fun j hj => by rw [hWf, World.frozen?_setCells]; exact hNf _) (gflat_one KLs _)
  clear hv hvc hOv
  generalize KLs.cs q = VS at *
  subst hW1
  have hE1 : ∀ x, ((w.alloc (.cells ROW 35)).drew).cell? x = (w.drew.alloc (.cells ROW 35)).cell? x := fun x => by rw [alloc_drew]
  have hE2 : ∀ x, ((w.alloc (.cells ROW 35)).drew).frozen? x = (w.drew.alloc (.cells ROW 35)).frozen? x := fun x => by rw [alloc_drew]
  have hF1 : ∀ x, (((w.alloc (.cells ROW 35)).drew.setCells w.heap.size (i * 6) VS).drew).cell? x = ((w.drew.alloc (.cells ROW 35)).setCells w.heap.size (i * 6) VS).cell? x := fun x => by rw [cell_drew, alloc_drew]
  have hF2 : ∀ x, (((w.alloc (.cells ROW 35)).drew.setCells w.heap.size (i * 6) VS).drew).frozen? x = ((w.drew.alloc (.cells ROW 35)).setCells w.heap.size (i * 6) VS).frozen? x := fun x => by rw [frz_drew, alloc_drew]
  have mixed : Tryz.prog.follows Departure.mixedOrders = true := by kernel_rfl
  have hz2 : ¬ ((i : Int) = (n : Int)) := by omega
  have hz3 : (cap : Int) < (n : Int) + 1 := by omega
  have hw1 : IntKind.i64.wrap ((i : Int) + 1) = (i : Int) + 1 := by rw [IntKind.wrap_i64]; omega
  have hb1 : (0 : Int) ≤ (i : Int) + 1 := by omega
  have hb5 : (i : Int) + 1 ≤ (n : Int) + 1 := by omega
  have hin : i ≤ n := by omega
  have htn : ((i : Int) + 1).toNat = i + 1 := by omega
  have hb3 : (i : Int) ≤ (n : Int) := by omega
  have HN := hidP (And.intro hn h)
  clear hkk hik hold hROW hG hRl hn h hgc hg0 hvs hvf hgs hdl htl hN hNf hOb hi0 hz0 hzs hzb hzs'
  go_enter Tryz.func27, Tryz.ntmps27
  go_wp2_with (first
    | (at_builtin; refine Lib.wpList_append_run _ rfl _ _ _ _ rfl _ _ rfl rfl _ _ (hrz _) ?_)
    | (at_builtin; refine wpList_copy_runI _ rfl _ _ 24 24 rfl _ _ rfl rfl (hcpA _ hE1 hE2 _ _) ?_))
  go_region_law_o (refine step_copy_runI rfl _ _ 24 24 rfl (.slice (some ⟨w.heap.size, (i + 1) * 6, none⟩) (n - i) (G - (i + 1))) (.slice (some ⟨g, i * 6, none⟩) (n - i) (cap - i)) (by simp [Act.eval, Act.put]) (by simp [Act.eval, Act.put]) (hcpB _ hF1 hF2 3 (G - (i + 1)) (cap - i)) ?_)
  go_wp2
  go_ret
  exact ⟨rfl, rfl⟩

end Go.Proofs.YtddnofonodgneaaGreatDoor
