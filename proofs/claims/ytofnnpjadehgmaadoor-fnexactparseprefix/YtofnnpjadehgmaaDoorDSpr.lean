/-
  The program's spreading of numbers over eight groups, by its plain twin; nothing old in memory turns.
-/
import Derived.Test.YtofnnpjadehgmaaDoorShelfI
import Derived.Test.YtofnnpjadehgmaaDoorDReadL
import Derived.Test.YtofnnpjadehgmaaDoorAOk
import Derived.Laws.IdiomCopy
import Derived.Deep.DeepCutAuto
import Derived.RegionTactic
namespace Go.Proofs.YtofnnpjadehgmaaDoor
open Go.RowKit

/-- The place behind the last missing number among the first b (0: none is missing). -/
def lastM (z : Nat → Int) : Nat → Nat
  | 0 => 0
  | b + 1 => if z b = -1 then b + 1 else lastM z b

theorem lastM_le (z : Nat → Int) : ∀ b, lastM z b ≤ b
  | 0 => Nat.le_refl _
  | b + 1 => by unfold lastM; split; exact Nat.le_refl _; exact Nat.le_succ_of_le (lastM_le z b)

/-- The cells from place a on, n of them. -/
def cut (z : Nat → Int) (a n : Nat) : List Value := (List.range n).map fun j => .int .i64 (z (a + j))

theorem cut_len (z : Nat → Int) (a n : Nat) : (cut z a n).length = n := by simp [cut]
theorem cut_at (z : Nat → Int) (a n j : Nat) (v : Value) (h : (cut z a n)[j]? = some v) : j < n ∧ v = .int .i64 (z (a + j)) := by
  obtain ⟨hj, e⟩ := List.getElem?_eq_some_iff.1 h
  rw [cut_len] at hj
  exact ⟨hj, by rw [← e]; simp [cut]⟩
theorem cut_one (z : Nat → Int) (a n : Nat) : ∀ v ∈ cut z a n, v.oneCell' = true := by
  intro v hv
  simp [cut] at hv
  obtain ⟨j, _, rfl⟩ := hv
  rfl

theorem copyRun (z : Nat → Int) (W : World) (B o dLen p a n c : Nat) (ty : TypeId) (hn : n ≤ dLen)
    (hsrc : ∀ j, j < n → W.cell? ⟨p, a + j, none⟩ = some (.int .i64 (z (a + j)))) (hc : ∀ j, j < n → (W.cell? ⟨B, o + j, none⟩).isSome = true) (hf : ∀ j, j < n → W.frozen? ⟨B, o + j, none⟩ = false) :
    (Builtin.copy_ #[48, 48] ty #[.slice (some ⟨B, o, none⟩) dLen dLen, .slice (some ⟨p, a, none⟩) n c]).run Tryd.prog W = .ok (goInt n) (W.setCells B o (cut z a n)) := by
  have h := run_copy_cells (P := Tryd.prog) W 48 48 ty 3 B o dLen dLen ⟨p, a, none⟩ n c (cut z a n) Tryd.underlying48 (by kernel_rfl) (by rw [cut_len]; exact (Nat.min_eq_left hn).symm)
    (fun j v hj => by obtain ⟨h1, rfl⟩ := cut_at z a n j v hj; rw [Lib.add_plain]; exact hsrc j h1) (fun j hj => hc j (by rw [cut_len] at hj; exact hj)) (fun j hj => hf j (by rw [cut_len] at hj; exact hj)) (cut_one z a n)
  rwa [cut_len] at h

theorem first_of (n : Nat) (p : Nat → Prop) (h : ∃ a, a < n ∧ p a) : ∃ a, a < n ∧ p a ∧ ∀ j, j < a → ¬ p j := by
  induction n with
  | zero => obtain ⟨a, ha, _⟩ := h; omega
  | succ m ih =>
    by_cases hm : ∃ a, a < m ∧ p a
    · obtain ⟨a, ha, hp, hmin⟩ := ih hm
      exact ⟨a, by omega, hp, hmin⟩
    · obtain ⟨a, ha, hp⟩ := h
      have : a = m := by
        by_cases e : a < m
        · exact absurd ⟨a, e, hp⟩ hm
        · omega
      subst this
      exact ⟨a, by omega, hp, fun j hj hpj => hm ⟨j, hj, hpj⟩⟩
theorem below_setCells {B : Nat} {a : World} (b : Nat) (hB : B ≤ b) : ∀ (vs : List Value) (o : Nat) (w : World), Below B a w → Below B a (w.setCells b o vs)
  | [], _, _, h => h
  | v :: vs, o, w, h => by
      show Below B a ((w.setCell ⟨b, o, none⟩ v).setCells b (o + 1) vs)
      exact below_setCells b hB vs (o + 1) _ (h.setCell hB v)
theorem size_setCells (b : Nat) : ∀ (vs : List Value) (o : Nat) (w : World), (w.setCells b o vs).heap.size = w.heap.size
  | [], _, _ => rfl
  | v :: vs, o, w => by
      show ((w.setCell ⟨b, o, none⟩ v).setCells b (o + 1) vs).heap.size = _
      rw [size_setCells b vs (o + 1)]; simp

/-- A copy into eight cells, as a step to a world of which all that matters is known. -/
theorem copyX (z g : Nat → Int) (W : World) (B o dLen p a n c : Nat) (hn : n ≤ dLen) (ho : o + n ≤ 8)
    (hs : ∀ j, j < n → W.cell? ⟨p, a + j, none⟩ = some (.int .i64 (z (a + j)))) (hg : ∀ j, j < 8 → W.cell? ⟨B, j, none⟩ = some (.int .i64 (g j))) (hf : ∀ j, j < 8 → W.frozen? ⟨B, j, none⟩ = false) :
    ∃ (X : World) (g' : Nat → Int), (∀ j, j < 8 → g' j = if o ≤ j ∧ j < o + n then z (a + (j - o)) else g j) ∧ (∀ ty : TypeId, (Builtin.copy_ #[48, 48] ty #[.slice (some ⟨B, o, none⟩) dLen dLen, .slice (some ⟨p, a, none⟩) n c]).run Tryd.prog W = .ok (goInt n) X)
      ∧ (∀ j, j < 8 → X.cell? ⟨B, j, none⟩ = some (.int .i64 (g' j))) ∧ (∀ q i, q ≠ B → X.cell? ⟨q, i, none⟩ = W.cell? ⟨q, i, none⟩) ∧ (∀ x, X.frozen? x = W.frozen? x)
      ∧ X.heap.size = W.heap.size ∧ (∀ (B' : Nat) (a' : World), B' ≤ B → Below B' a' W → Below B' a' X) := by
  have hcl : ∀ j, j < n → (W.cell? ⟨B, o + j, none⟩).isSome = true := fun j hj => by rw [hg (o + j) (by omega)]; rfl
  refine ⟨W.setCells B o (cut z a n), fun j => if o ≤ j ∧ j < o + n then z (a + (j - o)) else g j, fun _ _ => rfl, fun ty => copyRun z W B o dLen p a n c ty hn hs hcl (fun j hj => hf (o + j) (by omega)), fun j hj => ?_, fun q i hq => ?_, fun x => World.frozen?_setCells B _ _ _ x, size_setCells B _ _ _, fun B' a' hB h => below_setCells B hB _ _ _ h⟩
  · show _ = some (Value.int .i64 (if o ≤ j ∧ j < o + n then z (a + (j - o)) else g j))
    by_cases h : o ≤ j ∧ j < o + n
    · rw [if_pos h]
      have := World.cell?_setCells_in B (cut z a n) o W (fun i hi => hcl i (by rw [cut_len] at hi; exact hi)) (j - o) (by rw [cut_len]; omega)
      rw [show o + (j - o) = j from by omega] at this
      rw [this]
      simp [cut]
    · rw [if_neg h, World.cell?_setCells_out B _ _ _ _ (fun _ _ => by rw [cut_len]; simp only; omega)]
      exact hg j hj
  · exact World.cell?_setCells_out B _ _ _ _ (fun h _ => absurd h hq)

/-- Where the first missing number stands. -/
theorem fst_ex (z : Nat → Int) (n : Nat) : (∃ a, a < n ∧ z a = -1 ∧ (∀ j, j < a → z j ≠ -1) ∧ Lib.idxOf (((List.range n).map z).take n) (-1) = (a : Int)) ∨ ((∀ j, j < n → z j ≠ -1) ∧ Lib.idxOf (((List.range n).map z).take n) (-1) = -1) := by
  have e : ((List.range n).map z).take n = (List.range n).map z := List.take_of_length_le (by simp)
  have g : ∀ j, j < n → ((List.range n).map z).getD j 0 = z j := fun j hj => by simp [List.getD, hj]
  rw [e]
  by_cases h : ∃ a, a < n ∧ z a = -1
  · obtain ⟨a, ha, hz, hmin⟩ := first_of n (fun a => z a = -1) h
    left
    refine ⟨a, ha, hz, hmin, ?_⟩
    have := Lib.idxFrom_hit (-1) ((List.range n).map z) a 0 (by simpa using ha) (by rw [g a ha]; exact hz) (fun j hj => by rw [g j (by omega)]; exact hmin j hj)
    simpa [Lib.idxOf] using this
  · right
    have hn : ∀ j, j < n → z j ≠ -1 := fun j hj e => h ⟨j, hj, e⟩
    refine ⟨hn, ?_⟩
    exact Lib.idxFrom_miss (-1) ((List.range n).map z) 0 (fun j hj => by rw [g j (by simpa using hj)]; exact hn j (by simpa using hj))

theorem lt8 (j : Nat) (h : j < 8) : j = 0 ∨ j = 1 ∨ j = 2 ∨ j = 3 ∨ j = 4 ∨ j = 5 ∨ j = 6 ∨ j = 7 := by omega

set_option maxHeartbeats 2000000 in
theorem spread_none (z : Nat → Int) (p n : Nat) (h1 : 1 ≤ n) (h8 : n ≤ 8) (w : World) (hp : p < w.heap.size) (hcell : ∀ j, j < 8 → w.cell? ⟨p, j, none⟩ = some (.int .i64 (z j)))
    (hix : Lib.idxOf (((List.range n).map z).take n) (-1) = -1) :
    Calls Tryd.prog 50 #[.slice (some ⟨p, 0, none⟩) n 8] w fun e w' => (∃ g : Nat → Int, (∀ j, j < 8 → g j = if j < n then z j else 0) ∧ e = .returned (.tuple #[.agg #[.int .i64 (g 0), .int .i64 (g 1), .int .i64 (g 2), .int .i64 (g 3), .int .i64 (g 4), .int .i64 (g 5), .int .i64 (g 6), .int .i64 (g 7)], .bool (decide (n = 8))])) ∧ Below w.heap.size w w' := by
  have HI : Hid (∀ wx : World, Below w.heap.size w wx → Calls Tryd.prog 64 #[.slice (some ⟨p, 0, none⟩) n 8, .int .i64 (-1)] wx fun e w' => e = .returned (.int .i64 (-1)) ∧ w' = wx) := fun wx hb => by
    have h := Tryd.slices_Index_int p 0 n 8 ((List.range n).map z) (-1) wx (by simp) (by omega) (fun j hj => by
      have hj' : j < n := by simpa using hj
      rw [hb.cell hp, Nat.zero_add, hcell j (by omega)]; simp [List.getD, hj'])
    rwa [hix] at h
  obtain ⟨X, g, hg, hcp, hX, hO, hF, hS, hB⟩ := copyX z (fun _ => 0) ((w.alloc (.cells #[.int .i64 0, .int .i64 0, .int .i64 0, .int .i64 0, .int .i64 0, .int .i64 0, .int .i64 0, .int .i64 0] 52)).alloc (.cells #[.int .i64 0, .int .i64 0, .int .i64 0, .int .i64 0, .int .i64 0, .int .i64 0, .int .i64 0, .int .i64 0] 52)) (w.heap.size + 1) 0 8 p 0 n 8 (by omega) (by omega)
    (fun j hj => by rw [(((Below.refl w.heap.size w).alloc (Nat.le_refl _) _).alloc (by simp) _).cell hp, Nat.zero_add]; exact hcell j (by omega))
    (fun j hj => by rcases lt8 j hj with rfl | rfl | rfl | rfl | rfl | rfl | rfl | rfl <;> simp [go_sem])
    (fun j hj => by rcases lt8 j hj with rfl | rfl | rfl | rfl | rfl | rfl | rfl | rfl <;> simp [go_sem])
  have bX : Below w.heap.size w X := hB _ _ (by omega) (((Below.refl _ w).alloc (Nat.le_refl _) _).alloc (by simp) _)
  have hg' : ∀ j, j < 8 → g j = if j < n then z j else 0 := fun j hj => by rw [hg j hj]; simp
  refine Calls.mono (R := fun e w' => e = .returned (.tuple #[.agg #[.int .i64 (g 0), .int .i64 (g 1), .int .i64 (g 2), .int .i64 (g 3), .int .i64 (g 4), .int .i64 (g 5), .int .i64 (g 6), .int .i64 (g 7)], .bool (decide (n = 8))]) ∧ Below w.heap.size w w') ?_ (fun e w' h => ⟨⟨g, hg', h.1⟩, h.2⟩)
  have x0 := hX 0 (by omega)
  have x1 := hX 1 (by omega)
  have x2 := hX 2 (by omega)
  have x3 := hX 3 (by omega)
  have x4 := hX 4 (by omega)
  have x5 := hX 5 (by omega)
  have x6 := hX 6 (by omega)
  have x7 := hX 7 (by omega)
  have r0 : X.cell? ⟨w.heap.size, 0, none⟩ = some (.int .i64 0) := by rw [hO _ _ (by omega)]; simp [go_sem]
  have r1 : X.cell? ⟨w.heap.size, 1, none⟩ = some (.int .i64 0) := by rw [hO _ _ (by omega)]; simp [go_sem]
  have r2 : X.cell? ⟨w.heap.size, 2, none⟩ = some (.int .i64 0) := by rw [hO _ _ (by omega)]; simp [go_sem]
  have r3 : X.cell? ⟨w.heap.size, 3, none⟩ = some (.int .i64 0) := by rw [hO _ _ (by omega)]; simp [go_sem]
  have r4 : X.cell? ⟨w.heap.size, 4, none⟩ = some (.int .i64 0) := by rw [hO _ _ (by omega)]; simp [go_sem]
  have r5 : X.cell? ⟨w.heap.size, 5, none⟩ = some (.int .i64 0) := by rw [hO _ _ (by omega)]; simp [go_sem]
  have r6 : X.cell? ⟨w.heap.size, 6, none⟩ = some (.int .i64 0) := by rw [hO _ _ (by omega)]; simp [go_sem]
  have r7 : X.cell? ⟨w.heap.size, 7, none⟩ = some (.int .i64 0) := by rw [hO _ _ (by omega)]; simp [go_sem]
  have f0 : X.frozen? ⟨w.heap.size, 0, none⟩ = false := by rw [hF]; simp [go_sem]
  have f1 : X.frozen? ⟨w.heap.size, 1, none⟩ = false := by rw [hF]; simp [go_sem]
  have f2 : X.frozen? ⟨w.heap.size, 2, none⟩ = false := by rw [hF]; simp [go_sem]
  have f3 : X.frozen? ⟨w.heap.size, 3, none⟩ = false := by rw [hF]; simp [go_sem]
  have f4 : X.frozen? ⟨w.heap.size, 4, none⟩ = false := by rw [hF]; simp [go_sem]
  have f5 : X.frozen? ⟨w.heap.size, 5, none⟩ = false := by rw [hF]; simp [go_sem]
  have f6 : X.frozen? ⟨w.heap.size, 6, none⟩ = false := by rw [hF]; simp [go_sem]
  have f7 : X.frozen? ⟨w.heap.size, 7, none⟩ = false := by rw [hF]; simp [go_sem]
  clear hX hO hF hB hix hcell hg hg'
  have nb : ((n : Int) == 8) = decide (n = 8) := by
    by_cases h : n = 8
    · subst h; rfl
    · rw [decide_eq_false h]; rw [beq_eq_false_iff_ne]; omega
  go_enter Tryd.func50, Tryd.ntmps50
  go_wp2_with fail
  refine (HI.out _ (((Below.refl _ w).alloc (Nat.le_refl _) _).alloc (by simp) _)).mono ?_
  rintro e w1 ⟨rfl, rfl⟩
  go_wp2_with fail
  refine bodyPost_ret (v := .tuple #[.agg #[.int .i64 (g 0), .int .i64 (g 1), .int .i64 (g 2), .int .i64 (g 3), .int .i64 (g 4), .int .i64 (g 5), .int .i64 (g 6), .int .i64 (g 7)], .bool (decide (n = 8))]) (by simp [results, Tryd.results50, go_sem, r0, r1, r2, r3, r4, r5, r6, r7]) rfl ⟨rfl, ?_⟩
  repeat (first | with_reducible exact bX | (with_reducible refine Below.setCell ?_ (by first | omega | (simp; done) | (simp; omega)) _))

set_option maxHeartbeats 2000000 in
theorem spread_some (z : Nat → Int) (p n a c : Nat) (hn1 : 1 ≤ n) (hn8 : n ≤ 8) (w : World) (hp : p < w.heap.size) (hcell : ∀ j, j < 8 → w.cell? ⟨p, j, none⟩ = some (.int .i64 (z j)))
    (hix : Lib.idxOf (((List.range n).map z).take n) (-1) = (a : Int)) (hac : a < c) (hcn : c ≤ n) (hzc : z (c - 1) = -1) (hzz : ∀ j, c ≤ j → j < n → z j ≠ -1) :
    Calls Tryd.prog 50 #[.slice (some ⟨p, 0, none⟩) n 8] w fun e w' => (∃ g : Nat → Int, (∀ j, j < 8 → g j = if 8 - (n - c) ≤ j then z (c + (j - (8 - (n - c)))) else if j < a then z j else 0) ∧ e = .returned (.tuple #[.agg #[.int .i64 (g 0), .int .i64 (g 1), .int .i64 (g 2), .int .i64 (g 3), .int .i64 (g 4), .int .i64 (g 5), .int .i64 (g 6), .int .i64 (g 7)], .bool true])) ∧ Below w.heap.size w w' := by
  have HI : Hid (∀ wx : World, Below w.heap.size w wx → Calls Tryd.prog 64 #[.slice (some ⟨p, 0, none⟩) n 8, .int .i64 (-1)] wx fun e w' => e = .returned (.int .i64 a) ∧ w' = wx) := fun wx hb => by
    have h := Tryd.slices_Index_int p 0 n 8 ((List.range n).map z) (-1) wx (by simp) (by omega) (fun j hj => by
      have hj' : j < n := by simpa using hj
      rw [hb.cell hp, Nat.zero_add, hcell j (by omega)]; simp [List.getD, hj'])
    rwa [hix] at h
  have HC : Hid (∀ wx : World, Below w.heap.size w wx → ∀ j, j < 8 → wx.cell? ⟨p, j, none⟩ = some (.int .i64 (z j))) := fun wx hb j hj => by rw [hb.cell hp]; exact hcell j hj
  have HZ : Hid (∀ j, c ≤ j → j < n → z j ≠ -1) := hzz
  have HZC : Hid (z (c - 1) = -1) := hzc
  clear hcell hix hzz hzc
  go_enter Tryd.func50, Tryd.ntmps50
  go_wp2_with fail
  refine (HI.out _ (((Below.refl _ w).alloc (Nat.le_refl _) _).alloc (by simp) _)).mono ?_
  rintro e w1 ⟨rfl, rfl⟩
  go_wp2_with fail
  go_loopw [6] (fun t6 x => ∃ b : Nat, t6 = .int .i64 b ∧ c ≤ b ∧ b ≤ n ∧ x = (w.alloc (.cells #[.int .i64 0, .int .i64 0, .int .i64 0, .int .i64 0, .int .i64 0, .int .i64 0, .int .i64 0, .int .i64 0] 52)).alloc (.cells #[.int .i64 0, .int .i64 0, .int .i64 0, .int .i64 0, .int .i64 0, .int .i64 0, .int .i64 0, .int .i64 0] 52)) (fun t6 _ => (intOf t6).toNat)
  case atStart => exact ⟨n, rfl, hcn, Nat.le_refl _, rfl⟩
  case round =>
    obtain ⟨b, rfl, hcb, hbn, rfl⟩ := hrel
    obtain ⟨k, rfl⟩ : ∃ k, b = k + 1 := ⟨b - 1, by omega⟩
    have hk := HC.out w (Below.refl _ w) k (by omega)
    have e1 : ((k + 1 : Nat) : Int) - 1 = (k : Int) := by omega
    by_cases hm : z k = -1
    · have hmb : (z k != -1) = false := by rw [hm]; rfl
      have hkc : k + 1 = c := by
        by_cases h : k + 1 = c
        · exact h
        · exact absurd hm (HZ.out k (by omega) (by omega))
      subst hkc
      clear hm
      go_wp2_with fail
      have bW : Below w.heap.size w (((w.alloc (.cells #[.int .i64 0, .int .i64 0, .int .i64 0, .int .i64 0, .int .i64 0, .int .i64 0, .int .i64 0, .int .i64 0] 52)).alloc (.cells #[.int .i64 0, .int .i64 0, .int .i64 0, .int .i64 0, .int .i64 0, .int .i64 0, .int .i64 0, .int .i64 0] 52)).drew) := (((Below.refl _ w).alloc (Nat.le_refl _) _).alloc (by simp) _).drew
      obtain ⟨X, g1, hg1, hcp, hX, hO, hF, hS, hB⟩ := copyX z (fun _ => 0) ((w.alloc (.cells #[.int .i64 0, .int .i64 0, .int .i64 0, .int .i64 0, .int .i64 0, .int .i64 0, .int .i64 0, .int .i64 0] 52)).alloc (.cells #[.int .i64 0, .int .i64 0, .int .i64 0, .int .i64 0, .int .i64 0, .int .i64 0, .int .i64 0, .int .i64 0] 52)).drew (w.heap.size + 1) 0 8 p 0 a 8 (by omega) (by omega)
        (fun j hj => by rw [Nat.zero_add]; exact HC.out _ bW j (by omega))
        (fun j hj => by rcases lt8 j hj with rfl | rfl | rfl | rfl | rfl | rfl | rfl | rfl <;> simp [go_sem])
        (fun j hj => by rcases lt8 j hj with rfl | rfl | rfl | rfl | rfl | rfl | rfl | rfl <;> simp [go_sem])
      have bX : Below w.heap.size w X := hB _ _ (by omega) bW
      have q8 : (a : Int) ≤ 8 := by omega
      have HX : Hid (∀ j, j < 8 → X.cell? ⟨w.heap.size + 1, j, none⟩ = some (.int .i64 (g1 j))) := hX
      have HO := hid' hO
      have HF := hid' hF
      have HG := hid' hg1
      have HB := hid' hB
      clear hX hO hF hg1 hB bW
      go_region
      go_wp2_with fail
      obtain ⟨d, rfl⟩ : ∃ d, n = k + 1 + d := ⟨n - (k + 1), by omega⟩
      have e2 : (k : Int) + 1 + d - (k + 1) = (d : Int) := by omega
      have hpB : p ≠ w.heap.size + 1 := by omega
      have bXd : Below w.heap.size w X.drew := bX.drew
      by_cases hd : d = 0
      · subst hd
        by_cases hk7 : k = 7
        · subst hk7
          obtain ⟨Y, g2, hg2, hcp2, hY, hO2, hF2, hS2, hB2⟩ := copyX z g1 X.drew (w.heap.size + 1) 0 0 p 0 0 0 (by omega) (by omega)
            (fun j hj => by omega) (fun j hj => by rw [World.cell?_drew]; exact HX.out j hj)
            (fun j hj => by rw [World.frozen?_drew, HF.out]; rcases lt8 j hj with rfl | rfl | rfl | rfl | rfl | rfl | rfl | rfl <;> simp [go_sem])
          have HY := hid' hY
          have HG2 := hid' hg2
          have y0 := HY.out 0 (by omega)
          have y1 := HY.out 1 (by omega)
          have y2 := HY.out 2 (by omega)
          have y3 := HY.out 3 (by omega)
          have y4 := HY.out 4 (by omega)
          have y5 := HY.out 5 (by omega)
          have y6 := HY.out 6 (by omega)
          have y7 := HY.out 7 (by omega)
          have r0 : Y.cell? ⟨w.heap.size, 0, none⟩ = some (.int .i64 0) := by rw [hO2 _ _ (by omega), World.cell?_drew, HO.out _ _ (by omega)]; simp [go_sem]
          have r1 : Y.cell? ⟨w.heap.size, 1, none⟩ = some (.int .i64 0) := by rw [hO2 _ _ (by omega), World.cell?_drew, HO.out _ _ (by omega)]; simp [go_sem]
          have r2 : Y.cell? ⟨w.heap.size, 2, none⟩ = some (.int .i64 0) := by rw [hO2 _ _ (by omega), World.cell?_drew, HO.out _ _ (by omega)]; simp [go_sem]
          have r3 : Y.cell? ⟨w.heap.size, 3, none⟩ = some (.int .i64 0) := by rw [hO2 _ _ (by omega), World.cell?_drew, HO.out _ _ (by omega)]; simp [go_sem]
          have r4 : Y.cell? ⟨w.heap.size, 4, none⟩ = some (.int .i64 0) := by rw [hO2 _ _ (by omega), World.cell?_drew, HO.out _ _ (by omega)]; simp [go_sem]
          have r5 : Y.cell? ⟨w.heap.size, 5, none⟩ = some (.int .i64 0) := by rw [hO2 _ _ (by omega), World.cell?_drew, HO.out _ _ (by omega)]; simp [go_sem]
          have r6 : Y.cell? ⟨w.heap.size, 6, none⟩ = some (.int .i64 0) := by rw [hO2 _ _ (by omega), World.cell?_drew, HO.out _ _ (by omega)]; simp [go_sem]
          have r7 : Y.cell? ⟨w.heap.size, 7, none⟩ = some (.int .i64 0) := by rw [hO2 _ _ (by omega), World.cell?_drew, HO.out _ _ (by omega)]; simp [go_sem]
          have f0 : Y.frozen? ⟨w.heap.size, 0, none⟩ = false := by rw [hF2, World.frozen?_drew, HF.out]; simp [go_sem]
          have f1 : Y.frozen? ⟨w.heap.size, 1, none⟩ = false := by rw [hF2, World.frozen?_drew, HF.out]; simp [go_sem]
          have f2 : Y.frozen? ⟨w.heap.size, 2, none⟩ = false := by rw [hF2, World.frozen?_drew, HF.out]; simp [go_sem]
          have f3 : Y.frozen? ⟨w.heap.size, 3, none⟩ = false := by rw [hF2, World.frozen?_drew, HF.out]; simp [go_sem]
          have f4 : Y.frozen? ⟨w.heap.size, 4, none⟩ = false := by rw [hF2, World.frozen?_drew, HF.out]; simp [go_sem]
          have f5 : Y.frozen? ⟨w.heap.size, 5, none⟩ = false := by rw [hF2, World.frozen?_drew, HF.out]; simp [go_sem]
          have f6 : Y.frozen? ⟨w.heap.size, 6, none⟩ = false := by rw [hF2, World.frozen?_drew, HF.out]; simp [go_sem]
          have f7 : Y.frozen? ⟨w.heap.size, 7, none⟩ = false := by rw [hF2, World.frozen?_drew, HF.out]; simp [go_sem]
          have bY : Below w.heap.size w Y := hB2 _ _ (by omega) bXd
          clear hO2 hF2 hB2 hY hg2
          go_region
          go_wp2_with fail
          refine bodyPost_ret (v := .tuple #[.agg #[.int .i64 (g2 0), .int .i64 (g2 1), .int .i64 (g2 2), .int .i64 (g2 3), .int .i64 (g2 4), .int .i64 (g2 5), .int .i64 (g2 6), .int .i64 (g2 7)], .bool true]) (by simp [results, Tryd.results50, go_sem, r0, r1, r2, r3, r4, r5, r6, r7]) rfl ⟨⟨g2, ?_, rfl⟩, ?_⟩
          · intro j hj
            rw [HG2.out j hj, HG.out j hj]
            simp; omega
          · repeat (first | with_reducible exact bY | (with_reducible refine Below.setCell ?_ (by first | omega | (simp; done) | (simp; omega)) _))
        · obtain ⟨Y, g2, hg2, hcp2, hY, hO2, hF2, hS2, hB2⟩ := copyX z g1 X.drew (w.heap.size + 1) 0 0 p (k + 1) 0 (7 - k) (by omega) (by omega)
            (fun j hj => by omega) (fun j hj => by rw [World.cell?_drew]; exact HX.out j hj)
            (fun j hj => by rw [World.frozen?_drew, HF.out]; rcases lt8 j hj with rfl | rfl | rfl | rfl | rfl | rfl | rfl | rfl <;> simp [go_sem])
          have HY := hid' hY
          have HG2 := hid' hg2
          have q3 : ¬ (8 : Nat) = k + 1 := by omega
          have y0 := HY.out 0 (by omega)
          have y1 := HY.out 1 (by omega)
          have y2 := HY.out 2 (by omega)
          have y3 := HY.out 3 (by omega)
          have y4 := HY.out 4 (by omega)
          have y5 := HY.out 5 (by omega)
          have y6 := HY.out 6 (by omega)
          have y7 := HY.out 7 (by omega)
          have r0 : Y.cell? ⟨w.heap.size, 0, none⟩ = some (.int .i64 0) := by rw [hO2 _ _ (by omega), World.cell?_drew, HO.out _ _ (by omega)]; simp [go_sem]
          have r1 : Y.cell? ⟨w.heap.size, 1, none⟩ = some (.int .i64 0) := by rw [hO2 _ _ (by omega), World.cell?_drew, HO.out _ _ (by omega)]; simp [go_sem]
          have r2 : Y.cell? ⟨w.heap.size, 2, none⟩ = some (.int .i64 0) := by rw [hO2 _ _ (by omega), World.cell?_drew, HO.out _ _ (by omega)]; simp [go_sem]
          have r3 : Y.cell? ⟨w.heap.size, 3, none⟩ = some (.int .i64 0) := by rw [hO2 _ _ (by omega), World.cell?_drew, HO.out _ _ (by omega)]; simp [go_sem]
          have r4 : Y.cell? ⟨w.heap.size, 4, none⟩ = some (.int .i64 0) := by rw [hO2 _ _ (by omega), World.cell?_drew, HO.out _ _ (by omega)]; simp [go_sem]
          have r5 : Y.cell? ⟨w.heap.size, 5, none⟩ = some (.int .i64 0) := by rw [hO2 _ _ (by omega), World.cell?_drew, HO.out _ _ (by omega)]; simp [go_sem]
          have r6 : Y.cell? ⟨w.heap.size, 6, none⟩ = some (.int .i64 0) := by rw [hO2 _ _ (by omega), World.cell?_drew, HO.out _ _ (by omega)]; simp [go_sem]
          have r7 : Y.cell? ⟨w.heap.size, 7, none⟩ = some (.int .i64 0) := by rw [hO2 _ _ (by omega), World.cell?_drew, HO.out _ _ (by omega)]; simp [go_sem]
          have f0 : Y.frozen? ⟨w.heap.size, 0, none⟩ = false := by rw [hF2, World.frozen?_drew, HF.out]; simp [go_sem]
          have f1 : Y.frozen? ⟨w.heap.size, 1, none⟩ = false := by rw [hF2, World.frozen?_drew, HF.out]; simp [go_sem]
          have f2 : Y.frozen? ⟨w.heap.size, 2, none⟩ = false := by rw [hF2, World.frozen?_drew, HF.out]; simp [go_sem]
          have f3 : Y.frozen? ⟨w.heap.size, 3, none⟩ = false := by rw [hF2, World.frozen?_drew, HF.out]; simp [go_sem]
          have f4 : Y.frozen? ⟨w.heap.size, 4, none⟩ = false := by rw [hF2, World.frozen?_drew, HF.out]; simp [go_sem]
          have f5 : Y.frozen? ⟨w.heap.size, 5, none⟩ = false := by rw [hF2, World.frozen?_drew, HF.out]; simp [go_sem]
          have f6 : Y.frozen? ⟨w.heap.size, 6, none⟩ = false := by rw [hF2, World.frozen?_drew, HF.out]; simp [go_sem]
          have f7 : Y.frozen? ⟨w.heap.size, 7, none⟩ = false := by rw [hF2, World.frozen?_drew, HF.out]; simp [go_sem]
          have bY : Below w.heap.size w Y := hB2 _ _ (by omega) bXd
          clear hO2 hF2 hB2 hY hg2
          go_region
          go_wp2_with fail
          refine bodyPost_ret (v := .tuple #[.agg #[.int .i64 (g2 0), .int .i64 (g2 1), .int .i64 (g2 2), .int .i64 (g2 3), .int .i64 (g2 4), .int .i64 (g2 5), .int .i64 (g2 6), .int .i64 (g2 7)], .bool true]) (by simp [results, Tryd.results50, go_sem, r0, r1, r2, r3, r4, r5, r6, r7]) rfl ⟨⟨g2, ?_, rfl⟩, ?_⟩
          · intro j hj
            rw [HG2.out j hj, HG.out j hj]
            simp; omega
          · repeat (first | with_reducible exact bY | (with_reducible refine Below.setCell ?_ (by first | omega | (simp; done) | (simp; omega)) _))
      · obtain ⟨o, ho⟩ : ∃ o, o + d = 8 := ⟨8 - d, by omega⟩
        have e3 : 8 - (d : Int) = (o : Int) := by omega
        have e4 : 8 - o = d := by omega
        have e5 : k + 1 + d - (k + 1) = d := by omega
        obtain ⟨Y, g2, hg2, hcp2, hY, hO2, hF2, hS2, hB2⟩ := copyX z g1 X.drew (w.heap.size + 1) o d p (k + 1) d (7 - k) (by omega) (by omega)
          (fun j hj => HC.out _ bXd (k + 1 + j) (by omega)) (fun j hj => by rw [World.cell?_drew]; exact HX.out j hj)
          (fun j hj => by rw [World.frozen?_drew, HF.out]; rcases lt8 j hj with rfl | rfl | rfl | rfl | rfl | rfl | rfl | rfl <;> simp [go_sem])
        have HY := hid' hY
        have HG2 := hid' hg2
        have q1 : (o : Int) ≤ 8 := by omega
        have q2 : ¬ (8 : Nat) = o := by omega
        have q3 : ¬ (8 : Nat) = k + 1 := by omega
        have y0 := HY.out 0 (by omega)
        have y1 := HY.out 1 (by omega)
        have y2 := HY.out 2 (by omega)
        have y3 := HY.out 3 (by omega)
        have y4 := HY.out 4 (by omega)
        have y5 := HY.out 5 (by omega)
        have y6 := HY.out 6 (by omega)
        have y7 := HY.out 7 (by omega)
        have r0 : Y.cell? ⟨w.heap.size, 0, none⟩ = some (.int .i64 0) := by rw [hO2 _ _ (by omega), World.cell?_drew, HO.out _ _ (by omega)]; simp [go_sem]
        have r1 : Y.cell? ⟨w.heap.size, 1, none⟩ = some (.int .i64 0) := by rw [hO2 _ _ (by omega), World.cell?_drew, HO.out _ _ (by omega)]; simp [go_sem]
        have r2 : Y.cell? ⟨w.heap.size, 2, none⟩ = some (.int .i64 0) := by rw [hO2 _ _ (by omega), World.cell?_drew, HO.out _ _ (by omega)]; simp [go_sem]
        have r3 : Y.cell? ⟨w.heap.size, 3, none⟩ = some (.int .i64 0) := by rw [hO2 _ _ (by omega), World.cell?_drew, HO.out _ _ (by omega)]; simp [go_sem]
        have r4 : Y.cell? ⟨w.heap.size, 4, none⟩ = some (.int .i64 0) := by rw [hO2 _ _ (by omega), World.cell?_drew, HO.out _ _ (by omega)]; simp [go_sem]
        have r5 : Y.cell? ⟨w.heap.size, 5, none⟩ = some (.int .i64 0) := by rw [hO2 _ _ (by omega), World.cell?_drew, HO.out _ _ (by omega)]; simp [go_sem]
        have r6 : Y.cell? ⟨w.heap.size, 6, none⟩ = some (.int .i64 0) := by rw [hO2 _ _ (by omega), World.cell?_drew, HO.out _ _ (by omega)]; simp [go_sem]
        have r7 : Y.cell? ⟨w.heap.size, 7, none⟩ = some (.int .i64 0) := by rw [hO2 _ _ (by omega), World.cell?_drew, HO.out _ _ (by omega)]; simp [go_sem]
        have f0 : Y.frozen? ⟨w.heap.size, 0, none⟩ = false := by rw [hF2, World.frozen?_drew, HF.out]; simp [go_sem]
        have f1 : Y.frozen? ⟨w.heap.size, 1, none⟩ = false := by rw [hF2, World.frozen?_drew, HF.out]; simp [go_sem]
        have f2 : Y.frozen? ⟨w.heap.size, 2, none⟩ = false := by rw [hF2, World.frozen?_drew, HF.out]; simp [go_sem]
        have f3 : Y.frozen? ⟨w.heap.size, 3, none⟩ = false := by rw [hF2, World.frozen?_drew, HF.out]; simp [go_sem]
        have f4 : Y.frozen? ⟨w.heap.size, 4, none⟩ = false := by rw [hF2, World.frozen?_drew, HF.out]; simp [go_sem]
        have f5 : Y.frozen? ⟨w.heap.size, 5, none⟩ = false := by rw [hF2, World.frozen?_drew, HF.out]; simp [go_sem]
        have f6 : Y.frozen? ⟨w.heap.size, 6, none⟩ = false := by rw [hF2, World.frozen?_drew, HF.out]; simp [go_sem]
        have f7 : Y.frozen? ⟨w.heap.size, 7, none⟩ = false := by rw [hF2, World.frozen?_drew, HF.out]; simp [go_sem]
        have bY : Below w.heap.size w Y := hB2 _ _ (by omega) bXd
        clear hO2 hF2 hB2 hY hg2
        go_region
        go_wp2_with fail
        refine bodyPost_ret (v := .tuple #[.agg #[.int .i64 (g2 0), .int .i64 (g2 1), .int .i64 (g2 2), .int .i64 (g2 3), .int .i64 (g2 4), .int .i64 (g2 5), .int .i64 (g2 6), .int .i64 (g2 7)], .bool true]) (by simp [results, Tryd.results50, go_sem, r0, r1, r2, r3, r4, r5, r6, r7]) rfl ⟨⟨g2, ?_, rfl⟩, ?_⟩
        · intro j hj
          rw [HG2.out j hj, HG.out j hj]
          rw [e5, show 8 - d = o from by omega]
          by_cases h : o ≤ j
          · rw [if_pos ⟨h, by omega⟩, if_pos h]
          · rw [if_neg (fun c => h c.1), if_neg h]; simp
        · repeat (first | with_reducible exact bY | (with_reducible refine Below.setCell ?_ (by first | omega | (simp; done) | (simp; omega)) _))
    · have hmb : (z k != -1) = true := by rw [bne_iff_ne]; exact hm
      have hkc : c ≤ k := by
        by_cases h : k + 1 = c
        · subst h; exact absurd HZC.out hm
        · omega
      clear hm
      go_wp2_with fail
      exact ⟨⟨k, rfl, hkc, by omega, trivial⟩, by simp [intOf]⟩

end Go.Proofs.YtofnnpjadehgmaaDoor
