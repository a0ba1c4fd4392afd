/-
  The laws' marks of a plan, and the look whether they stand.
-/
import Derived.Test.YthbpehpnikknlaaVBlocks
import Derived.Lib.SliceRun
import Derived.Test.YthbpehpnikknlaaVPlanS
import Derived.Test.YthbpehpnikknlaaACmpS
import Derived.Test.YthbpehpnikknlaaPRow
import Derived.Test.YthbpehpnikknlaaVIPlan
import Derived.Test.YthbpehpnikknlaaVSPool
import Derived.Test.YthbpehpnikknlaaPEq
import Derived.Test.YthbpehpnikknlaaBIPok
import Derived.Test.YthbpehpnikknlaaVSPl2
import Derived.Test.YthbpehpnikknlaaBSPok
import Derived.Test.YthbpehpnikknlaaGRow
import Derived.Laws.BytesArg
import Derived.Test.YthbpehpnikknlaaRPool
import Derived.Test.YthbpehpnikknlaaRBlock
import Derived.Test.YthbpehpnikknlaaVPool
namespace Go.Proofs.Ythbpehpnikknlaa
open Go.RowKit

set_option maxHeartbeats 1000000 in
theorem clonePool (a : Option Addr) (n cap : Nat) (ps : List Pl) (w : World) (hn : n = ps.length) (hB : RowG KPl w a ps) (hl : n ≤ 1048576) :
    Calls Try.prog 79 #[.slice a n cap] w fun e w' => ∃ a' c', e = .returned (.slice a' n c') ∧ OwnG KPl 48 w' w.heap.size (.slice a' n c') ps ∧ Below w.heap.size w w' := by
  have hq : ∀ w, (binOp .eql 29 (.slice a n cap) (.slice none 0 0)).run Try.prog w = .ok (.bool a.isNone) w := fun w => Lib.run_eql_slice_nil w _ _ a n cap 0 0 Try.tyPl.1
  cases a with
  | none =>
    have hps : ps = [] := by
      cases ps with
      | nil => rfl
      | cons z t => obtain ⟨p, o, z', e, _⟩ := hB 0 (by simp); cases e
    subst hps
    have hn0 : n = 0 := hn
    subst hn0
    clear hB hn
    go_enter Try.func79, Try.ntmps79
    go_wp2_with fail
    go_ret
    exact ⟨none, 0, rfl, own_noneG KPl w w.heap.size 48, Below.refl _ _⟩
  | some ad =>
    have HB := hidP hB
    have HN := hidP hn
    clear hB hn
    have HZ := hidP (own_zeroG KPl w w.heap.size 48 (Nat.le_refl _))
    have HZB := hidP (alloc_below w (.cells #[] 48))
    go_enter Try.func79, Try.ntmps79
    go_wp2_with (at_builtin; refine wpList_appG Try.tyPl _ rfl (.tmp 5) (.tmp 6) 29 rfl w.heap.size (some ⟨w.heap.size, 0, none⟩) 0 0 n [] ps (.slice (some ad) n cap) rfl rfl HN.out HZ.out rfl (src_rowG Try.tyPl.1 n cap (by show 0 < 5; omega) HN.out (HB.out.later HZB.out) (fun h => by cases h)) (by omega) (by simp) ?_; intro a6 c6 w6 ho6 hg6 ht6)
    have HF := hidP (And.intro ho6 (below_appG HZB.out HZ.out (by simp) hg6))
    clear ho6 hg6 ht6
    go_wp2_with fail
    go_ret
    have h := HF.out
    rw [Nat.zero_add, List.nil_append] at h
    exact ⟨a6, c6, rfl, h.1, h.2⟩

set_option maxHeartbeats 1000000 in
theorem cloneBlock (a : Option Addr) (n cap : Nat) (ps : List Bk) (w : World) (hn : n = ps.length) (hB : RowG KBk w a ps) (hl : n ≤ 1048576) :
    Calls Try.prog 80 #[.slice a n cap] w fun e w' => ∃ a' c', e = .returned (.slice a' n c') ∧ OwnG KBk 56 w' w.heap.size (.slice a' n c') ps ∧ Below w.heap.size w w' := by
  have hq : ∀ w, (binOp .eql 30 (.slice a n cap) (.slice none 0 0)).run Try.prog w = .ok (.bool a.isNone) w := fun w => Lib.run_eql_slice_nil w _ _ a n cap 0 0 Try.tyBk.1
  cases a with
  | none =>
    have hps : ps = [] := by
      cases ps with
      | nil => rfl
      | cons z t => obtain ⟨p, o, z', e, _⟩ := hB 0 (by simp); cases e
    subst hps
    have hn0 : n = 0 := hn
    subst hn0
    clear hB hn
    go_enter Try.func80, Try.ntmps80
    go_wp2_with fail
    go_ret
    exact ⟨none, 0, rfl, own_noneG KBk w w.heap.size 56, Below.refl _ _⟩
  | some ad =>
    have HB := hidP hB
    have HN := hidP hn
    clear hB hn
    have HZ := hidP (own_zeroG KBk w w.heap.size 56 (Nat.le_refl _))
    have HZB := hidP (alloc_below w (.cells #[] 56))
    go_enter Try.func80, Try.ntmps80
    go_wp2_with (at_builtin; refine wpList_appG Try.tyBk _ rfl (.tmp 5) (.tmp 6) 30 rfl w.heap.size (some ⟨w.heap.size, 0, none⟩) 0 0 n [] ps (.slice (some ad) n cap) rfl rfl HN.out HZ.out rfl (src_rowG Try.tyBk.1 n cap (by show 0 < 5; omega) HN.out (HB.out.later HZB.out) (fun h => by cases h)) (by omega) (by simp) ?_; intro a6 c6 w6 ho6 hg6 ht6)
    have HF := hidP (And.intro ho6 (below_appG HZB.out HZ.out (by simp) hg6))
    clear ho6 hg6 ht6
    go_wp2_with fail
    go_ret
    have h := HF.out
    rw [Nat.zero_add, List.nil_append] at h
    exact ⟨a6, c6, rfl, h.1, h.2⟩

end Go.Proofs.Ythbpehpnikknlaa

namespace Go.Proofs.Ythbpehpnikknlaa
open Go.RowKit

theorem frz2 (w : World) (t : TypeId) (u v : Value) (o : Nat) : (w.alloc (.cells #[u, v] t)).frozen? ⟨w.heap.size, o, none⟩ = false := by simp [go_sem]

set_option maxRecDepth 10000 in
set_option maxHeartbeats 2000000 in
theorem ownPlan_any (ap : Option Addr) (np cp : Nat) (ab : Option Addr) (nb cb : Nat) (ps : List Pl) (bs : List Bk) (w : World) (hnp : np = ps.length) (hnb : nb = bs.length) (hP : RowG KPl w ap ps) (hK : RowG KBk w ab bs) (hl : np ≤ 1048576) (hl' : nb ≤ 1048576) :
    Calls Try.prog 49 #[.agg #[.slice ap np cp, .slice ab nb cb]] w fun e w' => ∃ a c b d, e = .returned (.agg #[.slice a np c, .slice b nb d]) ∧ OwnG KPl 48 w' w.heap.size (.slice a np c) ps ∧ OwnG KBk 56 w' w.heap.size (.slice b nb d) bs ∧ (∀ k, (Value.slice a np c).ownBlock = some k → (Value.slice b nb d).ownBlock ≠ some k) ∧ Below w.heap.size w w' := by
  have HCP := hidP (fun W h => clonePool ap np cp ps W hnp (hP.later h) hl)
  have HCB := hidP (fun W h => cloneBlock ab nb cb bs W hnb (hK.later h) hl')
  clear hP hK hnp hnb
  go_enter Try.func49, Try.ntmps49
  go_wp2_with fail
  obtain ⟨u0, u1⟩ := box2 (u := .slice ap np cp) (v := .slice ab nb cb) w 32
  have uB := alloc_below w (.cells #[.slice ap np cp, .slice ab nb cb] 32)
  have uL := alloc_lt w (.cells #[.slice ap np cp, .slice ab nb cb] 32)
  have uS : (w.alloc (.cells #[.slice ap np cp, .slice ab nb cb] 32)).heap.size = w.heap.size + 1 := by simp
  generalize w.alloc (.cells #[.slice ap np cp, .slice ab nb cb] 32) = W1 at *
  have yF := frz2 W1 32 (.slice none 0 0) (.slice none 0 0)
  obtain ⟨y0, y1⟩ := box2 (u := .slice none 0 0) (v := .slice none 0 0) W1 32
  have yB := alloc_below W1 (.cells #[.slice none 0 0, .slice none 0 0] 32)
  have yL := alloc_lt W1 (.cells #[.slice none 0 0, .slice none 0 0] 32)
  have yS : (W1.alloc (.cells #[.slice none 0 0, .slice none 0 0] 32)).heap.size = W1.heap.size + 1 := by simp
  generalize W1.alloc (.cells #[.slice none 0 0, .slice none 0 0] 32) = W2 at *
  rw [uS] at y0 y1 yL yS
  rw [uS] at yF
  have HU := hidP uB
  have HY := hidP yB.drew
  have hs1 : W1.heap.size = w.heap.size + 1 := uS
  have hs2 : W2.heap.size = w.heap.size + 1 + 1 := yS
  have HS12 := hidP (And.intro hs1 hs2)
  clear uB yB uS yS hs1 hs2
  have HSx : Hid (∀ x, Below W1.heap.size W1 x → (x.cell? ⟨w.heap.size, 0, none⟩ = some (.slice ap np cp) ∧ x.cell? ⟨w.heap.size, 1, none⟩ = some (.slice ab nb cb) ∧ Below W1.heap.size W1 x)) := hidP fun x h =>
    ⟨(h.cell uL).trans u0, (h.cell uL).trans u1, h⟩
  refine wp_region_held_drew (S := (fun x => x.cell? ⟨w.heap.size, 0, none⟩ = some (.slice ap np cp) ∧ x.cell? ⟨w.heap.size, 1, none⟩ = some (.slice ab nb cb) ∧ Below W1.heap.size W1 x)) (by kernel_rfl) ?_ (fun hHeld => ?_)
  · try dsimp only
    exact HSx.out _ (HY.out)
  refine wpAnyH_take (i := 0) (oi := ⟨some 3, _, _, _, _, _⟩) (v := ?_) rfl (by kernel_rfl) (by kernel_rfl) (by kernel_rfl) (fun _ _ _ h => h) (Or.inl ⟨by rfl, ?_⟩) (by assumption) ?_
  rotate_left
  · intro w hSw
    try dsimp only at hSw
    go_simp
    try with_reducible rfl
  simp only [Act.put, List.setIfInBounds_toArray, List.set_cons_zero, List.set_cons_succ]
  refine wpAnyH_take (i := 1) (oi := ⟨some 4, _, _, _, _, _⟩) (v := ?_) rfl (by kernel_rfl) (by kernel_rfl) (by kernel_rfl) (fun _ _ _ h => h) (Or.inl ⟨by rfl, ?_⟩) (by assumption) ?_
  rotate_left
  · intro w hSw
    try dsimp only at hSw
    go_simp
    try with_reducible rfl
  simp only [Act.put, List.setIfInBounds_toArray, List.set_cons_zero, List.set_cons_succ]
  refine wpAnyH_take (i := 3) (oi := ⟨some 6, _, _, _, _, _⟩) (v := ?_) rfl (by kernel_rfl) (by kernel_rfl) (by kernel_rfl) (fun _ _ _ h => h) (Or.inl ⟨by rfl, ?_⟩) (by assumption) ?_
  rotate_left
  · intro w hSw
    try dsimp only at hSw
    go_simp
    try with_reducible rfl
  simp only [Act.put, List.setIfInBounds_toArray, List.set_cons_zero, List.set_cons_succ]
  refine wpAnyH_take (i := 4) (oi := ⟨some 7, _, _, _, _, _⟩) (v := ?_) rfl (by kernel_rfl) (by kernel_rfl) (by kernel_rfl) (fun _ _ _ h => h) (Or.inl ⟨by rfl, ?_⟩) (by assumption) ?_
  rotate_left
  · intro w hSw
    try dsimp only at hSw
    go_simp
    try with_reducible rfl
  simp only [Act.put, List.setIfInBounds_toArray, List.set_cons_zero, List.set_cons_succ]
  refine wpAnyH_ready (rs := [2]) (by kernel_rfl) (by simp) ?_
  refine AllReadyH.cons rfl (fun K hK => ?_) AllReadyH.nil
  go_simp
  go_wp2_with (first | (go_at_call 79; refine (HCP.out _ (HU.out.trans ((hHeld.2.2).mono HU.out.size))).mono ?_; rintro e w3 ⟨a3, c3, rfl, og3, hb3⟩; have b3 := (hHeld.2.2).trans (hb3.mono (hHeld.2.2).size)))
  refine hK.out _ _ ?_ (fun hHeld => ?_)
  · try dsimp only
    exact HSx.out _ b3
  clear hK K
  refine wpAnyH_ready (rs := [5]) (by kernel_rfl) (by simp) ?_
  refine AllReadyH.cons rfl (fun K hK => ?_) AllReadyH.nil
  go_simp
  go_wp2_with (first | (go_at_call 80; refine (HCB.out _ (HU.out.trans ((hHeld.2.2).mono HU.out.size))).mono ?_; rintro e w4 ⟨a4, c4, rfl, oh4, hb4⟩; have b4 := (hHeld.2.2).trans (hb4.mono (hHeld.2.2).size)))
  refine hK.out _ _ ?_ (fun hHeld => ?_)
  · try dsimp only
    exact HSx.out _ b4
  clear hK K
  refine wpAnyH_take (i := 6) (oi := ⟨some 9, _, _, _, _, _⟩) (v := ?_) rfl (by kernel_rfl) (by kernel_rfl) (by kernel_rfl) (fun _ _ _ h => h) (Or.inl ⟨by rfl, ?_⟩) (by assumption) ?_
  rotate_left
  · intro w hSw
    try dsimp only at hSw
    go_simp
    try with_reducible rfl
  simp only [Act.put, List.setIfInBounds_toArray, List.set_cons_zero, List.set_cons_succ]
  have HO3 := hidP (og3.later (show Below w3.heap.size w3 w4 from hb4))
  have HO4 := hidP oh4
  have l3 := fun k hk => OwnG.lt og3 k hk
  have l4 := fun k hk => OwnG.lt oh4 k hk
  have z34 : w.heap.size + 1 < w3.heap.size := Nat.lt_of_lt_of_le yL hb3.size
  have r0 := (hb4.cell z34).trans ((hb3.cell yL).trans y0)
  have r1 := (hb4.cell z34).trans ((hb3.cell yL).trans y1)
  have rF : ∀ o, w4.frozen? ⟨w.heap.size + 1, o, none⟩ = false := fun o => (hb4.frozen z34).trans ((hb3.frozen yL).trans (yF o))
  have LL := hidP (And.intro l3 (And.intro l4 (And.intro hb3.size hb4.size)))
  clear l3 l4
  refine wpAnyH_ready (rs := [7]) (by kernel_rfl) (by simp) ?_
  refine AllReadyH.cons rfl (fun K hK => ?_) AllReadyH.nil
  go_simp
  refine hK.out _ _ ?_ (fun hHeld => ?_)
  · try dsimp only
    refine HSx.out _ ?_
    repeat (with_reducible refine Below.setCell ?_ ?_ _; rotate_left; (focus (have := HS12.out; simp; omega)))
    exact hHeld.2.2
  clear hK K
  have HE := hidP (hHeld.2.2)
  refine wpAnyH_done (by kernel_rfl) ?_ _
  clear hHeld
  go_wp2_with fail
  refine bodyPost_ret (v := .agg #[.slice a3 np c3, .slice a4 nb c4]) (by simp [results, Try.results49, go_sem, r0, r1]) rfl ⟨a3, c3, a4, c4, rfl, ?_, ?_, ?_, ?_⟩
  · have o1 := OwnG.grown HO3.out (grown_cellG w4 (w.heap.size + 1) 0 (.slice a3 np c3)) (fun k hk e => by have h5 : W2.heap.size ≤ k := (LL.out.1 k hk).1; have h6 := HS12.out; simp at e; omega)
    have o2 := OwnG.grown o1 (grown_cellG _ (w.heap.size + 1) 1 (.slice a4 nb c4)) (fun k hk e => by have h5 : W2.heap.size ≤ k := (LL.out.1 k hk).1; have h6 := HS12.out; simp at e; omega)
    exact o2.mono (show w.heap.size ≤ W2.heap.size by have := HS12.out; omega)
  · have o1 := OwnG.grown HO4.out (grown_cellG w4 (w.heap.size + 1) 0 (.slice a3 np c3)) (fun k hk e => by have h5 : w3.heap.size ≤ k := (LL.out.2.1 k hk).1; have h7 : W2.heap.size ≤ w3.heap.size := LL.out.2.2.1; have h6 := HS12.out; simp at e; omega)
    have o2 := OwnG.grown o1 (grown_cellG _ (w.heap.size + 1) 1 (.slice a4 nb c4)) (fun k hk e => by have h5 : w3.heap.size ≤ k := (LL.out.2.1 k hk).1; have h7 : W2.heap.size ≤ w3.heap.size := LL.out.2.2.1; have h6 := HS12.out; simp at e; omega)
    exact o2.mono (show w.heap.size ≤ w3.heap.size by have h7 : W2.heap.size ≤ w3.heap.size := LL.out.2.2.1; have := HS12.out; omega)
  · intro k h1 h2
    have l1 := LL.out.1 k h1
    have l2 := LL.out.2.1 k h2
    omega
  · exact HU.out.trans (HE.out.mono HU.out.size)

end Go.Proofs.Ythbpehpnikknlaa

namespace Go.Proofs.Ythbpehpnikknlaa
open Go.RowKit

theorem gflat_take {α : Type} (K : Kd α) : ∀ (ps : List α) (i : Nat), gflat K (ps.take i) = (gflat K ps).take (i * K.k)
  | [], i => by simp [gflat]
  | p :: t, 0 => by simp [gflat]
  | p :: t, i + 1 => by
      show K.cs p ++ gflat K (t.take i) = (K.cs p ++ gflat K t).take ((i + 1) * K.k)
      have e1 : (K.cs p).take ((i + 1) * K.k) = K.cs p := List.take_of_length_le (by rw [K.len, Nat.add_mul]; omega)
      have e2 : (i + 1) * K.k - (K.cs p).length = i * K.k := by rw [K.len, Nat.add_mul]; omega
      rw [gflat_take K t i, List.take_append, e1, e2]
theorem OwnG.cut {α : Type} {K : Kd α} {t : TypeId} {w : World} {B g n cap : Nat} {ps : List α} (h : OwnG K t w B (.slice (some ⟨g, 0, none⟩) n cap) ps) (i : Nat) (hi : i ≤ n) : OwnG K t w B (.slice (some ⟨g, 0, none⟩) i cap) (ps.take i) := by
  have hn := h.caps.1
  have hlt : (ps.take i).length = i := by rw [List.length_take]; omega
  rcases h.2 with ⟨hv, _⟩ | ⟨g', c', cur, hv, hb, hg, h1, h2, h3, h4⟩
  · simp at hv
  · simp at hv
    obtain ⟨e1, _, e2⟩ := hv
    subst e1 e2
    refine ⟨gflat_len K _, Or.inr ⟨g, cap, cur, by rw [hlt], hb, hg, by omega, h2, h3, ?_⟩⟩
    rw [hlt, gflat_take, ← h4, List.take_take]
    congr 1
    exact (Nat.min_eq_left (Nat.mul_le_mul_right _ (by omega))).symm
theorem OwnG.rowFrom {α : Type} {K : Kd α} {t : TypeId} {w : World} {B g n cap : Nat} {ps : List α} (h : OwnG K t w B (.slice (some ⟨g, 0, none⟩) n cap) ps) (j : Nat) : RowG K w (some ⟨g, j * K.k, none⟩) (ps.drop j) := fun i hi => by
  rw [List.length_drop] at hi
  obtain ⟨p, o, q, ha, hp, hq, c⟩ := h.row (j + i) (by omega)
  simp only [Option.some.injEq, Addr.mk.injEq, and_true] at ha
  obtain ⟨rfl, rfl⟩ := ha
  refine ⟨_, _, q, rfl, hp, by rw [List.getElem?_drop]; exact hq, fun x v hv => ?_⟩
  have := c x v hv
  rw [Nat.zero_add, Nat.add_mul] at this
  exact this

/-- An append to a row of one's own that has room for it. -/
theorem app_roomG {α : Type} {K : Kd α} {z : Value} {bytes : Nat} {P : Program} {t e : TypeId} (h4 : GTy K z bytes P t e) (w : World) (B : Nat) (tx ty : TypeId) (g n cap m : Nat) (ps qs : List α) (x : Value) (hn : n = ps.length) (hm : m = qs.length)
    (hown : OwnG K e w B (.slice (some ⟨g, 0, none⟩) n cap) ps) (hs : Src P K.k tx x m (gflat K qs) w) (hroom : n + m ≤ cap) :
    ∃ w', (Builtin.append_ #[t, tx] ty #[.slice (some ⟨g, 0, none⟩) n cap, x]).run P w = .ok (.slice (some ⟨g, 0, none⟩) (n + m) cap) w' ∧ OwnG K e w' B (.slice (some ⟨g, 0, none⟩) (n + m) cap) (ps ++ qs) ∧ w.grownBy w' (some g) ∧ w'.heap.size = w.heap.size := by
  obtain ⟨ht, h4, h5, h6⟩ := h4
  obtain ⟨i, hi, hz0, hz1, hz2⟩ := info_parts h4
  subst hn
  subst hm
  have hxl := hown.1
  have hnl := hs.newsLen
  rcases hown.2 with ⟨hv, hn0⟩ | ⟨g', cap', cur, hv, hbg, hg, hnc, hcm, hcs, htake⟩
  · simp at hv
  · simp at hv
    obtain ⟨rfl, rfl⟩ := hv
    have hmul : (ps.length + qs.length) * K.k ≤ cap * K.k := Nat.mul_le_mul_right _ hroom
    have hst := run_storeCells_at P g (ps.length * K.k) e (gflat K qs) 0 cur w hg (by rw [hcs, hnl, Nat.add_zero, ← Nat.add_mul]; exact hmul) hs.one
    simp only [Nat.add_zero] at hst
    have hr : (Builtin.append_ #[t, tx] ty #[.slice (some ⟨g, 0, none⟩) ps.length cap, x]).run P w = .ok (.slice (some ⟨g, 0, none⟩) (ps.length + qs.length) cap) (w.setRow g (cur.toList.take (ps.length * K.k) ++ gflat K qs ++ cur.toList.drop (ps.length * K.k + (gflat K qs).length)).toArray) := by
      rcases hs.kind with ⟨e', hk⟩ | hk <;> simp [Builtin.append_, run_underlying ht, run_underlying hk, sizeOf, typeInfo, hi, hz1, hs.len, hroom, hs.cells, Addr.add_lit, hst]
    refine ⟨_, hr, ⟨by rw [gflat_len], .inr ⟨g, cap, _, by rw [List.length_append], hbg, setRow_heap w g cur _ e _ hg, by rw [List.length_append]; exact hroom, hcm, ?_, ?_⟩⟩, ⟨rfl, rfl, rfl, by simp, fun k _ hk => setRow_other w g k _ (fun e => hk (by rw [e]))⟩, by simp⟩
    · simp only [List.size_toArray, List.length_append, List.length_take, List.length_drop, Array.length_toList, hcs, hnl]
      rw [Nat.add_mul] at hmul
      omega
    · rw [htake, gflat_app, List.length_append, show (ps.length + qs.length) * K.k = (gflat K ps ++ gflat K qs).length by rw [List.length_append, hxl, hnl, Nat.add_mul]]
      exact List.take_left
theorem step_roomG {α : Type} {K : Kd α} {z : Value} {bytes : Nat} {P : Program} {t e : TypeId} (h4 : GTy K z bytes P t e) {ops : Array Oper} {o : Oper} {a : Act} {Kx : Act → World → Prop} {Q : Exit → Act → World → Prop} {E : Prop} (w : World) (hgd : o.guard = none) (s x : Operand) (tx : TypeId)
    (ho : o.op = .call { callee := .builtin .append, args := #[s, x], argTypes := #[t, tx] })
    (B : Nat) (g n cap m : Nat) (ps qs : List α) (xv : Value) (hsv : a.eval s = .slice (some ⟨g, 0, none⟩) n cap) (hn : n = ps.length) (hm : m = qs.length) (hown : OwnG K e w B (.slice (some ⟨g, 0, none⟩) n cap) ps)
    (hx : a.eval x = xv) (hs : Src P K.k tx xv m (gflat K qs) w) (hroom : n + m ≤ cap)
    (h : ∀ w', OwnG K e w' B (.slice (some ⟨g, 0, none⟩) (n + m) cap) (ps ++ qs) → w.grownBy w' (some g) → w'.heap.size = w.heap.size → Kx (a.put o.dst (.slice (some ⟨g, 0, none⟩) (n + m) cap)) w') :
    if Region.wanted o (yielded ops a.tmps) = true then Oper.wp P o a w Kx Q else E := by
  have hw : Region.wanted o (yielded ops a.tmps) = true := by simp [Region.wanted, hgd]
  rw [if_pos hw]
  obtain ⟨w', hr, h2, h3, h5⟩ := app_roomG h4 w B tx o.type g n cap m ps qs xv hn hm hown hs hroom
  unfold Oper.wp execOp
  simp only [ho, resolve, invoke, builtin, Sem.run_bind, Sem.run_pure, Result.andThen_ok, List.map_toArray, List.map_cons, List.map_nil, hsv, hx, hr]
  exact h w' h2 h3 h5

theorem setCells_puts (b : Nat) : ∀ (vs : List Value) (w : World) (o : Nat), w.setCells b o vs = puts w b o vs
  | [], _, _ => rfl
  | v :: vs, w, o => setCells_puts b vs (w.setCell ⟨b, o, none⟩ v) (o + 1)
theorem sets_past : ∀ (vs l : List Value) (o : Nat), l.length ≤ o → sets l o vs = l
  | [], _, _, _ => rfl
  | v :: vs, l, o, h => by
      show sets (l.set o v) (o + 1) vs = l
      rw [List.set_eq_of_length_le h]
      exact sets_past vs l (o + 1) (by omega)
/-- One is cleared behind a row's end. -/
theorem run_clear1 {P : Program} (w : World) (t e ty : TypeId) (z : Value) (ht : P.underlying t = some (.slice e)) (hv : ∀ w, (zeroValue e).run P w = .ok z w) (h1 : ∀ v ∈ z.cells.toList, v.oneCell' = true) (b o c : Nat)
    (hc : ∀ j, j < z.cells.toList.length → (w.cell? ⟨b, o + j, none⟩).isSome = true) (hf : ∀ j, j < z.cells.toList.length → w.frozen? ⟨b, o + j, none⟩ = false) :
    (Builtin.clear_ #[t] ty #[.slice (some ⟨b, o, none⟩) 1 c]).run P w = .ok (.tuple #[]) (puts w b o z.cells.toList) := by
  have hzc : (Builtin.zeroCells z.cells 1).toList = z.cells.toList := by
    simp [Builtin.zeroCells]
    apply List.ext_getElem
    · simp
    · intro i h1 h2
      simp at h1 h2
      simp [Nat.mod_eq_of_lt h2, getElem!_pos, h2]
  have hst := run_storeCells_cells (P := P) b o z.cells.toList 0 w (by simpa using hc) (by simpa using hf) h1
  simp only [Nat.add_zero] at hst
  rw [setCells_puts] at hst
  simp [Builtin.clear_, run_underlying ht, hv, hzc, hst]

theorem wpList_clear1 {P : Program} {ops : Array Oper} {rest : List Oper} {o : Oper} {a : Act} {Q : Exit → Act → World → Prop} (w : World) (hgd : o.guard = none) (s : Operand) (t e : TypeId) (ho : o.op = .call { callee := .builtin .clear, args := #[s], argTypes := #[t] })
    (z : Value) (ht : P.underlying t = some (.slice e)) (hv : ∀ w, (zeroValue e).run P w = .ok z w) (h1 : ∀ v ∈ z.cells.toList, v.oneCell' = true) (b off c : Nat) (hsv : a.eval s = .slice (some ⟨b, off, none⟩) 1 c)
    (hc : ∀ j, j < z.cells.toList.length → (w.cell? ⟨b, off + j, none⟩).isSome = true) (hf : ∀ j, j < z.cells.toList.length → w.frozen? ⟨b, off + j, none⟩ = false)
    (h : wpList P ops Q rest (a.put o.dst (.tuple #[])) (puts w b off z.cells.toList)) : wpList P ops Q (o :: rest) a w :=
  wpList_plain hgd fun _ hK => by
    unfold Oper.wp execOp
    have hr := run_clear1 (P := P) w t e o.type z ht hv h1 b off c hc hf
    simp only [ho, resolve, invoke, builtin, Sem.run_bind, Sem.run_pure, Result.andThen_ok, List.map_toArray, List.map_cons, List.map_nil, hsv, hr]
    exact hK _ _ h
theorem OwnG.cellIn {α : Type} {K : Kd α} {t : TypeId} {w : World} {B g n cap : Nat} {ps : List α} (h : OwnG K t w B (.slice (some ⟨g, 0, none⟩) n cap) ps) (j : Nat) (hj : j < cap * K.k) : (w.cell? ⟨g, j, none⟩).isSome = true := by
  rcases h.2 with ⟨hv, _⟩ | ⟨g', c', cur, hv, hb, hg, h1, h2, h3, h4⟩
  · simp at hv
  · simp at hv
    obtain ⟨e1, _, e2⟩ := hv
    subst e1 e2
    simp [World.cell?, hg, h3, hj]
theorem grown_of' {w w' : World} (h : Below w.heap.size w w') (r : Option Nat) : w.grownBy w' r := ⟨h.os, h.tape, h.output, h.size, fun k hk _ => h.block k hk⟩

end Go.Proofs.Ythbpehpnikknlaa

namespace Go.Proofs.Ythbpehpnikknlaa
open Go.RowKit

theorem Try.zeroPl (w : World) : (zeroValue 48).run Try.prog w = .ok (.agg #[.bool false, .int .i64 0, .int .i64 0, .int .i64 0, .int .i64 0]) w := by
  obtain ⟨i0, hi, hz0, hz1, hz2⟩ := info_parts Try.tyPl.2.1
  simp [zeroValue, typeInfo, hi, hz0]
theorem erase_eq (ps : List Pl) (i : Nat) : ps.take i ++ ps.drop (i + 1) = ps.eraseIdx i := (List.eraseIdx_eq_take_drop_succ ps i).symm

set_option maxRecDepth 10000 in
set_option maxHeartbeats 1000000 in
theorem delete_any (g n cap B : Nat) (i : Nat) (ps : List Pl) (w : World) (hn : n = ps.length) (hi : i < n) (hl : n ≤ 1048576) (h : OwnG KPl 48 w B (.slice (some ⟨g, 0, none⟩) n cap) ps) :
    Calls Try.prog 65 #[.slice (some ⟨g, 0, none⟩) n cap, .int .i64 i, .int .i64 ((i : Int) + 1)] w fun e w' => e = .returned (.slice (some ⟨g, 0, none⟩) (n - 1) cap) ∧ OwnG KPl 48 w' B (.slice (some ⟨g, 0, none⟩) (n - 1) cap) (ps.eraseIdx i) ∧ w.grownBy w' (some g) := by
  have hcap := h.caps
  have hnc : n ≤ cap := by omega
  have hc9 : cap ≤ 9223372036854775807 := hcap.2.2.1
  have HO := hidP h
  have HN := hidP hn
  have hin : ((i : Int) == (i : Int) + 1) = false := by rw [beq_eq_false_iff_ne]; omega
  clear h hn hcap
  go_enter Try.func65, Try.ntmps65
  go_wp2_with fail
  have HOd := hidP (OwnG.later HO.out (Below.refl _ w).drew)
  have hl1 : (ps.take i).length = i := by rw [List.length_take]; have := HN.out; omega
  have hl2 : (ps.drop (i + 1)).length = n - (i + 1) := by rw [List.length_drop, HN.out]
  have HL := hidP (And.intro hl1 hl2)
  clear hl1 hl2
  have b1 : (i : Int) ≤ (cap : Int) := by omega
  have b2 : (i : Int) ≤ (i : Int) + 1 := by omega
  have b3 : (0 : Int) ≤ (i : Int) + 1 := by omega
  have b4 : (i : Int) + 1 ≤ (n : Int) := by omega
  by_cases hcj : cap = i + 1
  · have hn2 : n = i + 1 := by omega
    subst hn2
    subst hcj
    refine wp_region_held_drew (S := fun _ => True) (by kernel_rfl) trivial (fun hHeld => ?_)
    refine wpAnyH_take (i := 0) (oi := ⟨some 20, _, _, _, _, _⟩) (v := ?_) rfl (by kernel_rfl) (by kernel_rfl) (by kernel_rfl) (fun _ _ _ h => h) (Or.inl ⟨by rfl, ?_⟩) (by assumption) ?_
    rotate_left
    · intro w hSw
      try dsimp only at hSw
      go_simp
      try with_reducible rfl
    simp only [Act.put, List.setIfInBounds_toArray, List.set_cons_zero, List.set_cons_succ]
    refine wpAnyH_take (i := 1) (oi := ⟨some 21, _, _, _, _, _⟩) (v := ?_) rfl (by kernel_rfl) (by kernel_rfl) (by kernel_rfl) (fun _ _ _ h => h) (Or.inl ⟨by rfl, ?_⟩) (by assumption) ?_
    rotate_left
    · intro w hSw
      try dsimp only at hSw
      go_simp
      try with_reducible rfl
    simp only [Act.put, List.setIfInBounds_toArray, List.set_cons_zero, List.set_cons_succ]
    refine wpAnyH_take (i := 2) (oi := ⟨some 22, _, _, _, _, _⟩) (v := ?_) rfl (by kernel_rfl) (by kernel_rfl) (by kernel_rfl) (fun _ _ _ h => h) (Or.inl ⟨by rfl, ?_⟩) (by assumption) ?_
    rotate_left
    · intro w hSw
      try dsimp only at hSw
      go_simp
      try with_reducible rfl
    simp only [Act.put, List.setIfInBounds_toArray, List.set_cons_zero, List.set_cons_succ]
    refine wpAnyH_take (i := 3) (oi := ⟨some 23, _, _, _, _, _⟩) (v := ?_) rfl (by kernel_rfl) (by kernel_rfl) (by kernel_rfl) (fun _ _ _ h => h) (Or.inl ⟨by rfl, ?_⟩) (by assumption) ?_
    rotate_left
    · intro w hSw
      try dsimp only at hSw
      go_simp
      try with_reducible rfl
    simp only [Act.put, List.setIfInBounds_toArray, List.set_cons_zero, List.set_cons_succ]
    refine wpAnyH_take (i := 4) (oi := ⟨some 24, _, _, _, _, _⟩) (v := ?_) rfl (by kernel_rfl) (by kernel_rfl) (by kernel_rfl) (fun _ _ _ h => h) (Or.inl ⟨by rfl, ?_⟩) (by assumption) ?_
    rotate_left
    · intro w hSw
      try dsimp only at hSw
      go_simp
      try with_reducible rfl
    simp only [Act.put, List.setIfInBounds_toArray, List.set_cons_zero, List.set_cons_succ]
    refine wpAnyH_take (i := 5) (oi := ⟨some 25, _, _, _, _, _⟩) (v := ?_) rfl (by kernel_rfl) (by kernel_rfl) (by kernel_rfl) (fun _ _ _ h => h) (Or.inl ⟨by rfl, ?_⟩) (by assumption) ?_
    rotate_left
    · intro w hSw
      try dsimp only at hSw
      go_simp
      try with_reducible rfl
    simp only [Act.put, List.setIfInBounds_toArray, List.set_cons_zero, List.set_cons_succ]
    refine wpAnyH_ready (rs := [6]) (by kernel_rfl) (by simp) ?_
    refine AllReadyH.cons rfl (fun K hK => ?_) AllReadyH.nil
    refine step_roomG Try.tyPl _ rfl (.tmp 22) (.tmp 25) 29 rfl B g i (i + 1) (i + 1 - (i + 1)) (ps.take i) (ps.drop (i + 1)) (.slice (some ⟨g, 0, none⟩) (i + 1 - (i + 1)) 0) (by rfl) HL.out.1.symm HL.out.2.symm (OwnG.cut HOd.out i (by omega)) (by rw [Nat.sub_self]; rfl) (src_rowG Try.tyPl.1 _ _ (by show 0 < 5; omega) HL.out.2.symm (fun j hj => by rw [HL.out.2] at hj; omega) (fun h => by cases h)) (by omega) ?_
    intro w6 ho6 hg6 hs6
    refine hK.out _ _ trivial (fun hHeld => ?_)
    clear hK K
    refine wpAnyH_take (i := 7) (oi := ⟨some 0, _, _, _, _, _⟩) (v := ?_) rfl (by kernel_rfl) (by kernel_rfl) (by kernel_rfl) (fun _ _ _ h => h) (Or.inl ⟨by rfl, ?_⟩) (by assumption) ?_
    rotate_left
    · intro w hSw
      try dsimp only at hSw
      go_simp
      try with_reducible rfl
    simp only [Act.put, List.setIfInBounds_toArray]
    refine wpAnyH_done (by kernel_rfl) ?_ _
    clear hHeld
    rw [erase_eq] at ho6
    rw [Nat.sub_self, Nat.add_zero] at ho6
    have HM := hidP (And.intro (Eq.refl i) (Eq.refl (i + 1)))
    have hMc : (i + 1) ≠ i := by omega
    have hMc2 : ¬ (i + 1) = i := by omega
    have e1 : (i : Int) ≤ ((i + 1) : Int) := by omega
    have e2 : ((i + 1) : Int) ≤ (((i + 1) : Nat) : Int) := by omega
    have e3 : (0 : Int) ≤ (i : Int) := by omega
    have HO6 := hidP (And.intro ho6 hg6)
    have HZ := hidP (fun (w : World) => Try.zeroPl w)
    have HCI := hidP (fun j (hj : j < 5) => OwnG.cellIn ho6 (i * 5 + j) (show i * 5 + j < (i + 1) * 5 by omega))
    have HFI := hidP (fun j => OwnG.frozen ho6 (i * 5 + j))
    clear ho6 hg6 hs6
    have hclr : (Builtin.clear_ #[29] 0 #[.slice (some ⟨g, i * 5, none⟩) 1 1]).run Try.prog w6 = .ok (.tuple #[]) (puts w6 g (i * 5) [.bool false, .int .i64 0, .int .i64 0, .int .i64 0, .int .i64 0]) := run_clear1 w6 _ _ _ _ Try.tyPl.1 HZ.out (fun v hv => by simp [Value.cells] at hv; rcases hv with rfl | rfl <;> rfl) g (i * 5) _ (fun j hj => HCI.out j hj) (fun j _ => HFI.out j)
    go_wp2_with fail
    go_ret
    refine ⟨rfl, ?_, ?_⟩
    · have hlen : (ps.eraseIdx i).length = i := by rw [List.length_eraseIdx]; have := HN.out; have := HM.out; rw [if_pos (by omega)]; omega
      have hp := puts_own [.bool false, .int .i64 0, .int .i64 0, .int .i64 0, .int .i64 0] w6 _ (i * 5) (show w6.ownsRow B 48 5 (.slice (some ⟨g, 0, none⟩) i (i + 1)) i (gflat KPl (ps.eraseIdx i)) from by have := HO6.out.1; unfold OwnG at this; rw [hlen] at this; exact this)
      rw [sets_past _ _ _ (by rw [gflat_len, hlen]; exact Nat.le_refl _)] at hp
      unfold OwnG
      rw [hlen]
      exact hp
    · exact puts_grown _ _ _ ((grown_of' (Below.refl _ w).drew (some g)).trans HO6.out.2)
  · refine wp_region_held_drew (S := fun _ => True) (by kernel_rfl) trivial (fun hHeld => ?_)
    refine wpAnyH_take (i := 0) (oi := ⟨some 20, _, _, _, _, _⟩) (v := ?_) rfl (by kernel_rfl) (by kernel_rfl) (by kernel_rfl) (fun _ _ _ h => h) (Or.inl ⟨by rfl, ?_⟩) (by assumption) ?_
    rotate_left
    · intro w hSw
      try dsimp only at hSw
      go_simp
      try with_reducible rfl
    simp only [Act.put, List.setIfInBounds_toArray, List.set_cons_zero, List.set_cons_succ]
    refine wpAnyH_take (i := 1) (oi := ⟨some 21, _, _, _, _, _⟩) (v := ?_) rfl (by kernel_rfl) (by kernel_rfl) (by kernel_rfl) (fun _ _ _ h => h) (Or.inl ⟨by rfl, ?_⟩) (by assumption) ?_
    rotate_left
    · intro w hSw
      try dsimp only at hSw
      go_simp
      try with_reducible rfl
    simp only [Act.put, List.setIfInBounds_toArray, List.set_cons_zero, List.set_cons_succ]
    refine wpAnyH_take (i := 2) (oi := ⟨some 22, _, _, _, _, _⟩) (v := ?_) rfl (by kernel_rfl) (by kernel_rfl) (by kernel_rfl) (fun _ _ _ h => h) (Or.inl ⟨by rfl, ?_⟩) (by assumption) ?_
    rotate_left
    · intro w hSw
      try dsimp only at hSw
      go_simp
      try with_reducible rfl
    simp only [Act.put, List.setIfInBounds_toArray, List.set_cons_zero, List.set_cons_succ]
    refine wpAnyH_take (i := 3) (oi := ⟨some 23, _, _, _, _, _⟩) (v := ?_) rfl (by kernel_rfl) (by kernel_rfl) (by kernel_rfl) (fun _ _ _ h => h) (Or.inl ⟨by rfl, ?_⟩) (by assumption) ?_
    rotate_left
    · intro w hSw
      try dsimp only at hSw
      go_simp
      try with_reducible rfl
    simp only [Act.put, List.setIfInBounds_toArray, List.set_cons_zero, List.set_cons_succ]
    refine wpAnyH_take (i := 4) (oi := ⟨some 24, _, _, _, _, _⟩) (v := ?_) rfl (by kernel_rfl) (by kernel_rfl) (by kernel_rfl) (fun _ _ _ h => h) (Or.inl ⟨by rfl, ?_⟩) (by assumption) ?_
    rotate_left
    · intro w hSw
      try dsimp only at hSw
      go_simp
      try with_reducible rfl
    simp only [Act.put, List.setIfInBounds_toArray, List.set_cons_zero, List.set_cons_succ]
    refine wpAnyH_take (i := 5) (oi := ⟨some 25, _, _, _, _, _⟩) (v := ?_) rfl (by kernel_rfl) (by kernel_rfl) (by kernel_rfl) (fun _ _ _ h => h) (Or.inl ⟨by rfl, ?_⟩) (by assumption) ?_
    rotate_left
    · intro w hSw
      try dsimp only at hSw
      go_simp
      try with_reducible rfl
    simp only [Act.put, List.setIfInBounds_toArray, List.set_cons_zero, List.set_cons_succ]
    refine wpAnyH_ready (rs := [6]) (by kernel_rfl) (by simp) ?_
    refine AllReadyH.cons rfl (fun K hK => ?_) AllReadyH.nil
    refine step_roomG Try.tyPl _ rfl (.tmp 22) (.tmp 25) 29 rfl B g i cap (n - (i + 1)) (ps.take i) (ps.drop (i + 1)) (.slice (some ⟨g, (i + 1) * 5, none⟩) (n - (i + 1)) (cap - (i + 1))) (by rfl) HL.out.1.symm HL.out.2.symm (OwnG.cut HOd.out i (by omega)) rfl (src_rowG Try.tyPl.1 _ _ (by show 0 < 5; omega) HL.out.2.symm (OwnG.rowFrom HOd.out (i + 1)) (fun h => by cases h)) (by omega) ?_
    intro w6 ho6 hg6 hs6
    refine hK.out _ _ trivial (fun hHeld => ?_)
    clear hK K
    refine wpAnyH_take (i := 7) (oi := ⟨some 0, _, _, _, _, _⟩) (v := ?_) rfl (by kernel_rfl) (by kernel_rfl) (by kernel_rfl) (fun _ _ _ h => h) (Or.inl ⟨by rfl, ?_⟩) (by assumption) ?_
    rotate_left
    · intro w hSw
      try dsimp only at hSw
      go_simp
      try with_reducible rfl
    simp only [Act.put, List.setIfInBounds_toArray]
    refine wpAnyH_done (by kernel_rfl) ?_ _
    clear hHeld
    rw [erase_eq] at ho6
    obtain ⟨M, hM⟩ : ∃ M, M = i + (n - (i + 1)) := ⟨_, rfl⟩
    rw [← hM] at ho6 ⊢
    have hMn : M + 1 = n := by omega
    have HM := hidP (And.intro hM hMn)
    have hMc : cap ≠ M := by omega
    have hMc2 : ¬ cap = M := by omega
    have hn1 : n - M = 1 := by omega
    have e1 : (M : Int) ≤ (n : Int) := by omega
    have e2 : (n : Int) ≤ ((cap : Nat) : Int) := by omega
    have e3 : (0 : Int) ≤ (M : Int) := by omega
    have HO6 := hidP (And.intro ho6 hg6)
    have HZ := hidP (fun (w : World) => Try.zeroPl w)
    have HCI := hidP (fun j (hj : j < 5) => OwnG.cellIn ho6 (M * 5 + j) (show M * 5 + j < cap * 5 by omega))
    have HFI := hidP (fun j => OwnG.frozen ho6 (M * 5 + j))
    clear ho6 hg6 hs6 hM hMn
    have hclr : (Builtin.clear_ #[29] 0 #[.slice (some ⟨g, M * 5, none⟩) 1 (cap - M)]).run Try.prog w6 = .ok (.tuple #[]) (puts w6 g (M * 5) [.bool false, .int .i64 0, .int .i64 0, .int .i64 0, .int .i64 0]) := run_clear1 w6 _ _ _ _ Try.tyPl.1 HZ.out (fun v hv => by simp [Value.cells] at hv; rcases hv with rfl | rfl <;> rfl) g (M * 5) _ (fun j hj => HCI.out j hj) (fun j _ => HFI.out j)
    go_wp2_with fail
    go_ret
    refine ⟨by rw [show n - 1 = M by have := HM.out; omega]; rfl, ?_, ?_⟩
    · rw [show n - 1 = M by have := HM.out; omega]
      have hlen : (ps.eraseIdx i).length = M := by rw [List.length_eraseIdx]; have := HN.out; have := HM.out; rw [if_pos (by omega)]; omega
      have hp := puts_own [.bool false, .int .i64 0, .int .i64 0, .int .i64 0, .int .i64 0] w6 _ (M * 5) (show w6.ownsRow B 48 5 (.slice (some ⟨g, 0, none⟩) M cap) M (gflat KPl (ps.eraseIdx i)) from by have := HO6.out.1; unfold OwnG at this; rw [hlen] at this; exact this)
      rw [sets_past _ _ _ (by rw [gflat_len, hlen]; exact Nat.le_refl _)] at hp
      unfold OwnG
      rw [hlen]
      exact hp
    · exact puts_grown _ _ _ ((grown_of' (Below.refl _ w).drew (some g)).trans HO6.out.2)

end Go.Proofs.Ythbpehpnikknlaa

namespace Go.Proofs.Ythbpehpnikknlaa
open Go.RowKit

def peqB (p q : Pf) : Bool := (p.s == q.s && (p.H.toInt == q.H.toInt && p.L.toInt == q.L.toInt)) && p.b == q.b
theorem eqSt9 (a : Bool) (b c : Int) (d : Bool) (e f : Int) (w : World) : (Op.equalIn 9999 44 (.agg #[.bool a, .int .i64 b, .int .i64 c]) (.agg #[.bool d, .int .i64 e, .int .i64 f])).run Try.prog w = .ok (a == d && (b == e && c == f)) w := by
  have u3 := Try.underlying3
  have a3 := Try.isAgg3
  have z3 := Try.sizeOf3
  have u4 := Try.underlying4
  have a4 := Try.isAgg4
  have z4 := Try.sizeOf4
  have hS : Try.prog.underlying 44 = some (.struct (Try.prog.fieldsOf 44)) := by kernel_rfl
  have hp : Try.prog.stoodInHeld 44 = false := by kernel_rfl
  rw [show (9999 : Nat) = 9998 + 1 from rfl, run_equalIn_agg w 9998 44 _ _ hS hp]
  simp only [Program.fieldsOf, Try.underlying44]
  go_simp
  by_cases h1 : a = d <;> by_cases h2 : b = e <;> by_cases h3 : c = f <;> simp [h1, h2, h3]
set_option maxHeartbeats 400000 in
theorem eqPfx (p q : Pf) (w : World) : (binOp .eql 46 (.agg #[.bool p.s, .int .i64 p.H.toInt, .int .i64 p.L.toInt, .int .i64 p.b]) (.agg #[.bool q.s, .int .i64 q.H.toInt, .int .i64 q.L.toInt, .int .i64 q.b])).run Try.prog w = .ok (.bool (peqB p q)) w := by
  have u3 := Try.underlying3
  have a3 := Try.isAgg3
  have z3 := Try.sizeOf3
  have u4 := Try.underlying44
  have a4 := Try.isAgg44
  have z4 := Try.sizeOf44
  have hS : Try.prog.underlying 46 = some (.struct (Try.prog.fieldsOf 46)) := by kernel_rfl
  have hp : Try.prog.stoodInHeld 46 = false := by kernel_rfl
  have hE : (Op.equalIn 10000 46 (.agg #[.bool p.s, .int .i64 p.H.toInt, .int .i64 p.L.toInt, .int .i64 p.b]) (.agg #[.bool q.s, .int .i64 q.H.toInt, .int .i64 q.L.toInt, .int .i64 q.b])).run Try.prog w = .ok (peqB p q) w := by
    have h9 := eqSt9 p.s p.H.toInt p.L.toInt q.s q.H.toInt q.L.toInt
    rw [show (10000 : Nat) = 9999 + 1 from rfl, run_equalIn_agg w 9999 46 _ _ hS hp]
    simp only [Program.fieldsOf, Try.underlying46]
    go_simp
    unfold peqB
    by_cases h1 : p.s = q.s <;> by_cases h2 : p.H.toInt = q.H.toInt <;> by_cases h3 : p.L.toInt = q.L.toInt <;> by_cases h4 : p.b = q.b <;> simp [h1, h2, h3, h4]
  simp only [binOp]
  simp [Op.equal, Op.maxDepth, hE]
theorem peq_iff {p q : Pf} : peqB p q = true ↔ p = q := by
  unfold peqB
  rw [Bool.and_eq_true, Bool.and_eq_true, Bool.and_eq_true, beq_iff_eq, beq_iff_eq, beq_iff_eq, beq_iff_eq]
  constructor
  · rintro ⟨⟨a, b, c⟩, d⟩
    obtain ⟨s, H, L, n⟩ := p
    obtain ⟨s', H', L', n'⟩ := q
    have e1 := BitVec.eq_of_toInt_eq b
    have e2 := BitVec.eq_of_toInt_eq c
    simp only at a d e1 e2
    subst a d e1 e2
    rfl
  · rintro rfl; exact ⟨⟨rfl, rfl, rfl⟩, rfl⟩

end Go.Proofs.Ythbpehpnikknlaa

namespace Go.Proofs.Ythbpehpnikknlaa
open Go.RowKit

/-- The place of the pool p. -/
def plc (p : Pf) (ps : List Pl) : Int := ixF (fun q => peqB q.p p) 0 ps

set_option maxHeartbeats 1000000 in
theorem place1_any (p : Pf) (q : Pl) (cb : Nat) (w : World) (hcb : cb < w.heap.size) (x0 : w.cell? ⟨cb, 0, none⟩ = some (.bool p.s)) (x1 : w.cell? ⟨cb, 1, none⟩ = some (.int .i64 p.H.toInt)) (x2 : w.cell? ⟨cb, 2, none⟩ = some (.int .i64 p.L.toInt)) (x3 : w.cell? ⟨cb, 3, none⟩ = some (.int .i64 p.b)) :
    Calls Try.prog 88 #[.agg #[.bool q.p.s, .int .i64 q.p.H.toInt, .int .i64 q.p.L.toInt, .int .i64 q.p.b, .int .i64 q.n], .pointer (some ⟨cb, 0, none⟩)] w fun e w' => e = .returned (.bool (peqB q.p p)) ∧ Below w.heap.size w w' := by
  have hne : cb ≠ w.heap.size := by omega
  have hq := eqPfx q.p p
  generalize peqB q.p p = r at *
  go_enter Try.func88, Try.ntmps88
  go_wp2_with fail
  go_ret
  exact ⟨rfl, (Below.refl _ _).alloc (Nat.le_refl _) _⟩

set_option maxHeartbeats 1000000 in
theorem placeOfPool_any (pt : Pf) (ap : Option Addr) (np cp : Nat) (ab : Option Addr) (nb cb : Nat) (ps : List Pl) (w : World) (hnp : np = ps.length) (hP : RowG KPl w ap ps) (hlp : np ≤ 9000000000) :
    Calls Try.prog 63 #[.agg #[.slice ap np cp, .slice ab nb cb], .agg #[.bool pt.s, .int .i64 pt.H.toInt, .int .i64 pt.L.toInt, .int .i64 pt.b]] w fun e w' => e = .returned (.int .i64 (plc pt ps)) ∧ Below w.heap.size w w' := by
  have HB := hidP hP
  have HN := hidP hnp
  clear hP hnp
  go_enter Try.func63, Try.ntmps63
  go_wp2_with fail
  obtain ⟨u0, u1⟩ := box2 (u := .slice ap np cp) (v := .slice ab nb cb) w 32
  have uB := alloc_below w (.cells #[.slice ap np cp, .slice ab nb cb] 32)
  have uL := alloc_lt w (.cells #[.slice ap np cp, .slice ab nb cb] 32)
  have uS : (w.alloc (.cells #[.slice ap np cp, .slice ab nb cb] 32)).heap.size = w.heap.size + 1 := by simp
  generalize w.alloc (.cells #[.slice ap np cp, .slice ab nb cb] 32) = W1 at *
  obtain ⟨y0, y1, y2, y3⟩ := box4 (p := pt) W1 46
  have yB := alloc_below W1 (.cells #[.bool pt.s, .int .i64 pt.H.toInt, .int .i64 pt.L.toInt, .int .i64 pt.b] 46)
  have yL := alloc_lt W1 (.cells #[.bool pt.s, .int .i64 pt.H.toInt, .int .i64 pt.L.toInt, .int .i64 pt.b] 46)
  have yS : (W1.alloc (.cells #[.bool pt.s, .int .i64 pt.H.toInt, .int .i64 pt.L.toInt, .int .i64 pt.b] 46)).heap.size = W1.heap.size + 1 := by simp
  generalize W1.alloc (.cells #[.bool pt.s, .int .i64 pt.H.toInt, .int .i64 pt.L.toInt, .int .i64 pt.b] 46) = W2 at *
  rw [uS] at y0 y1 y2 y3 yL yS
  have HUB := hidP (uB.trans (yB.mono uB.size))
  have HC := hidP (idx_place (fun q => peqB q.p pt) (w.heap.size + 1) ap np cp ps W2 HN.out (HB.out.later HUB.out) hlp (fun q W hW => place1_any pt q (w.heap.size + 1) W (Nat.lt_of_lt_of_le yL hW.size) ((hW.cell yL).trans y0) ((hW.cell yL).trans y1) ((hW.cell yL).trans y2) ((hW.cell yL).trans y3)))
  clear uB yB uS yS u0 u1 y0 y1 y2 y3
  refine (HC.out).mono ?_
  rintro e w1 ⟨rfl, hb1⟩
  go_wp2_with fail
  go_ret
  exact ⟨rfl, HUB.out.trans (hb1.mono HUB.out.size)⟩

set_option maxRecDepth 10000 in
set_option maxHeartbeats 1000000 in
theorem exact_a (pt : Pf) (ap : Option Addr) (np cp : Nat) (ab : Option Addr) (nb cb : Nat) (ps : List Pl) (w : World) (hnp : np = ps.length) (hP : RowG KPl w ap ps) (hlp : np ≤ 9000000000) (hk : lpF pt 0 ps = -1) :
    Calls Try.prog 60 #[.agg #[.slice ap np cp, .slice ab nb cb], .agg #[.bool pt.s, .int .i64 pt.H.toInt, .int .i64 pt.L.toInt, .int .i64 pt.b]] w fun e w' => e = .returned (.int .i64 (-1)) ∧ Below w.heap.size w w' := by
  have HL := hidP (fun W h => l5Pool_any pt ap np cp ab nb cb ps W hnp (hP.later h) hlp)
  rw [hk] at HL
  have HB := hidP hP
  have HN := hidP hnp
  clear hP hnp
  go_enter Try.func60, Try.ntmps60
  go_wp2_with fail
  obtain ⟨u0, u1⟩ := box2 (u := .slice ap np cp) (v := .slice ab nb cb) w 32
  have uB := alloc_below w (.cells #[.slice ap np cp, .slice ab nb cb] 32)
  have uL := alloc_lt w (.cells #[.slice ap np cp, .slice ab nb cb] 32)
  have uS : (w.alloc (.cells #[.slice ap np cp, .slice ab nb cb] 32)).heap.size = w.heap.size + 1 := by simp
  generalize w.alloc (.cells #[.slice ap np cp, .slice ab nb cb] 32) = W1 at *
  obtain ⟨y0, y1, y2, y3⟩ := box4 (p := pt) W1 46
  have yB := alloc_below W1 (.cells #[.bool pt.s, .int .i64 pt.H.toInt, .int .i64 pt.L.toInt, .int .i64 pt.b] 46)
  have yL := alloc_lt W1 (.cells #[.bool pt.s, .int .i64 pt.H.toInt, .int .i64 pt.L.toInt, .int .i64 pt.b] 46)
  have yS : (W1.alloc (.cells #[.bool pt.s, .int .i64 pt.H.toInt, .int .i64 pt.L.toInt, .int .i64 pt.b] 46)).heap.size = W1.heap.size + 1 := by simp
  generalize W1.alloc (.cells #[.bool pt.s, .int .i64 pt.H.toInt, .int .i64 pt.L.toInt, .int .i64 pt.b] 46) = W2 at *
  rw [uS] at y0 y1 y2 y3 yL yS
  have s0 := (yB.cell uL).trans u0
  have sL : w.heap.size < W2.heap.size := by omega
  have HUB := hidP (uB.trans (yB.mono uB.size))
  clear uB yB uS yS u0 u1 uL
  refine (HL.out _ HUB.out).mono ?_
  rintro e w3 ⟨rfl, hb3⟩
  have z0 := (hb3.cell sL).trans s0
  have zL : w.heap.size < w3.heap.size := Nat.lt_of_lt_of_le sL hb3.size
  have r0 := (hb3.cell yL).trans y0
  have r1 := (hb3.cell yL).trans y1
  have r2 := (hb3.cell yL).trans y2
  have r3 := (hb3.cell yL).trans y3
  have rL : w.heap.size + 1 < w3.heap.size := Nat.lt_of_lt_of_le yL hb3.size
  have B3 := hidP (HUB.out.trans (hb3.mono HUB.out.size))
  clear hb3 s0 y0 y1 y2 y3
  go_wp2_with fail
  have HSx : Hid (∀ x, Below w3.heap.size w3 x → (x.cell? ⟨w.heap.size, 0, none⟩ = some (.slice ap np cp) ∧ x.cell? ⟨w.heap.size + 1, 0, none⟩ = some (.bool pt.s) ∧ x.cell? ⟨w.heap.size + 1, 1, none⟩ = some (.int .i64 pt.H.toInt) ∧ x.cell? ⟨w.heap.size + 1, 2, none⟩ = some (.int .i64 pt.L.toInt) ∧ x.cell? ⟨w.heap.size + 1, 3, none⟩ = some (.int .i64 pt.b) ∧ Below w3.heap.size w3 x)) := hidP fun x h =>
    ⟨(h.cell zL).trans z0, (h.cell rL).trans r0, (h.cell rL).trans r1, (h.cell rL).trans r2, (h.cell rL).trans r3, h⟩
  refine wp_region_held_drew (S := (fun x => x.cell? ⟨w.heap.size, 0, none⟩ = some (.slice ap np cp) ∧ x.cell? ⟨w.heap.size + 1, 0, none⟩ = some (.bool pt.s) ∧ x.cell? ⟨w.heap.size + 1, 1, none⟩ = some (.int .i64 pt.H.toInt) ∧ x.cell? ⟨w.heap.size + 1, 2, none⟩ = some (.int .i64 pt.L.toInt) ∧ x.cell? ⟨w.heap.size + 1, 3, none⟩ = some (.int .i64 pt.b) ∧ Below w3.heap.size w3 x)) (by kernel_rfl) ?_ (fun hHeld => ?_)
  · try dsimp only
    exact HSx.out _ ((Below.refl _ _).drew)
  refine wpAnyH_take (i := 0) (oi := ⟨some 9, _, _, _, _, _⟩) (v := ?_) rfl (by kernel_rfl) (by kernel_rfl) (by kernel_rfl) (fun _ _ _ h => h) (Or.inl ⟨by rfl, ?_⟩) (by assumption) ?_
  rotate_left
  · intro w hSw
    try dsimp only at hSw
    go_simp
    try with_reducible rfl
  simp only [Act.put, List.setIfInBounds_toArray, List.set_cons_zero, List.set_cons_succ]
  refine wpAnyH_take (i := 1) (oi := ⟨some 10, _, _, _, _, _⟩) (v := ?_) rfl (by kernel_rfl) (by kernel_rfl) (by kernel_rfl) (fun _ _ _ h => h) (Or.inl ⟨by rfl, ?_⟩) (by assumption) ?_
  rotate_left
  · intro w hSw
    try dsimp only at hSw
    go_simp
    try with_reducible rfl
  simp only [Act.put, List.setIfInBounds_toArray, List.set_cons_zero, List.set_cons_succ]
  refine wpAnyH_take (i := 2) (oi := ⟨some 11, _, _, _, _, _⟩) (v := ?_) rfl (by kernel_rfl) (by kernel_rfl) (by kernel_rfl) (fun _ _ _ h => h) (Or.inl ⟨by rfl, ?_⟩) (by assumption) ?_
  rotate_left
  · intro w hSw
    try dsimp only at hSw
    go_simp
    try with_reducible rfl
  simp only [Act.put, List.setIfInBounds_toArray, List.set_cons_zero, List.set_cons_succ]
  refine wpAnyH_take (i := 3) (oi := ⟨some 12, _, _, _, _, _⟩) (v := undef) rfl (by kernel_rfl) (by kernel_rfl) (by kernel_rfl) (fun _ _ _ h => h) (Or.inr ⟨by rfl, rfl⟩) (by assumption) ?_
  simp only [Act.put, List.setIfInBounds_toArray, List.set_cons_zero, List.set_cons_succ]
  refine wpAnyH_take (i := 4) (oi := ⟨some 13, _, _, _, _, _⟩) (v := undef) rfl (by kernel_rfl) (by kernel_rfl) (by kernel_rfl) (fun _ _ _ h => h) (Or.inr ⟨by rfl, rfl⟩) (by assumption) ?_
  simp only [Act.put, List.setIfInBounds_toArray, List.set_cons_zero, List.set_cons_succ]
  refine wpAnyH_take (i := 5) (oi := ⟨some 14, _, _, _, _, _⟩) (v := undef) rfl (by kernel_rfl) (by kernel_rfl) (by kernel_rfl) (fun _ _ _ h => h) (Or.inr ⟨by rfl, rfl⟩) (by assumption) ?_
  simp only [Act.put, List.setIfInBounds_toArray, List.set_cons_zero, List.set_cons_succ]
  refine wpAnyH_take (i := 6) (oi := ⟨some 15, _, _, _, _, _⟩) (v := undef) rfl (by kernel_rfl) (by kernel_rfl) (by kernel_rfl) (fun _ _ _ h => h) (Or.inr ⟨by rfl, rfl⟩) (by assumption) ?_
  simp only [Act.put, List.setIfInBounds_toArray, List.set_cons_zero, List.set_cons_succ]
  refine wpAnyH_take (i := 7) (oi := ⟨some 16, _, _, _, _, _⟩) (v := undef) rfl (by kernel_rfl) (by kernel_rfl) (by kernel_rfl) (fun _ _ _ h => h) (Or.inr ⟨by rfl, rfl⟩) (by assumption) ?_
  simp only [Act.put, List.setIfInBounds_toArray, List.set_cons_zero, List.set_cons_succ]
  refine wpAnyH_take (i := 8) (oi := ⟨some 17, _, _, _, _, _⟩) (v := undef) rfl (by kernel_rfl) (by kernel_rfl) (by kernel_rfl) (fun _ _ _ h => h) (Or.inr ⟨by rfl, rfl⟩) (by assumption) ?_
  simp only [Act.put, List.setIfInBounds_toArray, List.set_cons_zero, List.set_cons_succ]
  refine wpAnyH_take (i := 9) (oi := ⟨some 18, _, _, _, _, _⟩) (v := undef) rfl (by kernel_rfl) (by kernel_rfl) (by kernel_rfl) (fun _ _ _ h => h) (Or.inr ⟨by rfl, rfl⟩) (by assumption) ?_
  simp only [Act.put, List.setIfInBounds_toArray, List.set_cons_zero, List.set_cons_succ]
  refine wpAnyH_take (i := 10) (oi := ⟨some 19, _, _, _, _, _⟩) (v := undef) rfl (by kernel_rfl) (by kernel_rfl) (by kernel_rfl) (fun _ _ _ h => h) (Or.inr ⟨by rfl, rfl⟩) (by assumption) ?_
  simp only [Act.put, List.setIfInBounds_toArray, List.set_cons_zero, List.set_cons_succ]
  refine wpAnyH_take (i := 11) (oi := ⟨some 20, _, _, _, _, _⟩) (v := ?_) rfl (by kernel_rfl) (by kernel_rfl) (by kernel_rfl) (fun _ _ _ h => h) (Or.inl ⟨by rfl, ?_⟩) (by assumption) ?_
  rotate_left
  · intro w hSw
    try dsimp only at hSw
    go_simp
    try with_reducible rfl
  simp only [Act.put, List.setIfInBounds_toArray, List.set_cons_zero, List.set_cons_succ]
  have HE := hidP (hHeld.2.2.2.2.2)
  refine wpAnyH_done (by kernel_rfl) ?_ _
  clear hHeld
  go_wp2_with fail
  go_ret
  exact ⟨rfl, B3.out.trans (HE.out.mono B3.out.size)⟩

set_option maxRecDepth 10000 in
set_option maxHeartbeats 1000000 in
theorem exact_b (pt : Pf) (ap : Option Addr) (np cp : Nat) (ab : Option Addr) (nb cb : Nat) (ps : List Pl) (w : World) (hnp : np = ps.length) (hP : RowG KPl w ap ps) (hlp : np ≤ 9000000000) (j : Nat) (pq : Pl) (hk : lpF pt 0 ps = (j : Int)) (hx : ps[j]? = some pq) (heq : peqB pq.p pt = true) :
    Calls Try.prog 60 #[.agg #[.slice ap np cp, .slice ab nb cb], .agg #[.bool pt.s, .int .i64 pt.H.toInt, .int .i64 pt.L.toInt, .int .i64 pt.b]] w fun e w' => e = .returned (.int .i64 (j)) ∧ Below w.heap.size w w' := by
  have HL := hidP (fun W h => l5Pool_any pt ap np cp ab nb cb ps W hnp (hP.later h) hlp)
  rw [hk] at HL
  have HB := hidP hP
  have HN := hidP hnp
  clear hP hnp
  have hjn : j < np := by
    rw [HN.out]
    rcases Nat.lt_or_ge j ps.length with h' | h'
    · exact h'
    · rw [List.getElem?_eq_none h'] at hx; cases hx
  have wj : IntKind.i64.wrap (j : Int) = (j : Int) := by rw [IntKind.wrap_i64]; omega
  have hj0 : (0 : Int) ≤ (j : Int) := by omega
  have hj1 : (j : Int) < (np : Int) := by omega
  have gj : decide ((0 : Int) ≤ (j : Int)) = true := decide_eq_true (by omega)
  obtain ⟨p, o, x2, rfl, hp, hx2, c0, c1, c2, c3, c4⟩ := rowPl HB.out j (by rw [← HN.out]; exact hjn)
  rw [hx] at hx2
  cases hx2
  have hq := eqPfx pq.p pt
  rw [heq] at hq
  clear hx heq c4 HB
  go_enter Try.func60, Try.ntmps60
  go_wp2_with fail
  obtain ⟨u0, u1⟩ := box2 (u := .slice (some ⟨p, o, none⟩) np cp) (v := .slice ab nb cb) w 32
  have uB := alloc_below w (.cells #[.slice (some ⟨p, o, none⟩) np cp, .slice ab nb cb] 32)
  have uL := alloc_lt w (.cells #[.slice (some ⟨p, o, none⟩) np cp, .slice ab nb cb] 32)
  have uS : (w.alloc (.cells #[.slice (some ⟨p, o, none⟩) np cp, .slice ab nb cb] 32)).heap.size = w.heap.size + 1 := by simp
  generalize w.alloc (.cells #[.slice (some ⟨p, o, none⟩) np cp, .slice ab nb cb] 32) = W1 at *
  obtain ⟨y0, y1, y2, y3⟩ := box4 (p := pt) W1 46
  have yB := alloc_below W1 (.cells #[.bool pt.s, .int .i64 pt.H.toInt, .int .i64 pt.L.toInt, .int .i64 pt.b] 46)
  have yL := alloc_lt W1 (.cells #[.bool pt.s, .int .i64 pt.H.toInt, .int .i64 pt.L.toInt, .int .i64 pt.b] 46)
  have yS : (W1.alloc (.cells #[.bool pt.s, .int .i64 pt.H.toInt, .int .i64 pt.L.toInt, .int .i64 pt.b] 46)).heap.size = W1.heap.size + 1 := by simp
  generalize W1.alloc (.cells #[.bool pt.s, .int .i64 pt.H.toInt, .int .i64 pt.L.toInt, .int .i64 pt.b] 46) = W2 at *
  rw [uS] at y0 y1 y2 y3 yL yS
  have s0 := (yB.cell uL).trans u0
  have sL : w.heap.size < W2.heap.size := by omega
  have HUB := hidP (uB.trans (yB.mono uB.size))
  clear uB yB uS yS u0 u1 uL
  refine (HL.out _ HUB.out).mono ?_
  rintro e w3 ⟨rfl, hb3⟩
  have z0 := (hb3.cell sL).trans s0
  have zL : w.heap.size < w3.heap.size := Nat.lt_of_lt_of_le sL hb3.size
  have r0 := (hb3.cell yL).trans y0
  have r1 := (hb3.cell yL).trans y1
  have r2 := (hb3.cell yL).trans y2
  have r3 := (hb3.cell yL).trans y3
  have rL : w.heap.size + 1 < w3.heap.size := Nat.lt_of_lt_of_le yL hb3.size
  have B3 := hidP (HUB.out.trans (hb3.mono HUB.out.size))
  have d0 := (B3.out.cell hp).trans c0
  have d1 := (B3.out.cell hp).trans c1
  have d2 := (B3.out.cell hp).trans c2
  have d3 := (B3.out.cell hp).trans c3
  have dL : p < w3.heap.size := Nat.lt_of_lt_of_le hp B3.out.size
  clear hb3 s0 y0 y1 y2 y3
  go_wp2_with fail
  have HSx : Hid (∀ x, Below w3.heap.size w3 x → (x.cell? ⟨w.heap.size, 0, none⟩ = some (.slice (some ⟨p, o, none⟩) np cp) ∧ x.cell? ⟨w.heap.size + 1, 0, none⟩ = some (.bool pt.s) ∧ x.cell? ⟨w.heap.size + 1, 1, none⟩ = some (.int .i64 pt.H.toInt) ∧ x.cell? ⟨w.heap.size + 1, 2, none⟩ = some (.int .i64 pt.L.toInt) ∧ x.cell? ⟨w.heap.size + 1, 3, none⟩ = some (.int .i64 pt.b) ∧ x.cell? ⟨p, o + j * 5, none⟩ = some (.bool pq.p.s) ∧ x.cell? ⟨p, o + j * 5 + 1, none⟩ = some (.int .i64 pq.p.H.toInt) ∧ x.cell? ⟨p, o + j * 5 + 2, none⟩ = some (.int .i64 pq.p.L.toInt) ∧ x.cell? ⟨p, o + j * 5 + 3, none⟩ = some (.int .i64 pq.p.b) ∧ Below w3.heap.size w3 x)) := hidP fun x h =>
    ⟨(h.cell zL).trans z0, (h.cell rL).trans r0, (h.cell rL).trans r1, (h.cell rL).trans r2, (h.cell rL).trans r3, (h.cell dL).trans d0, (h.cell dL).trans d1, (h.cell dL).trans d2, (h.cell dL).trans d3, h⟩
  refine wp_region_held_drew (S := (fun x => x.cell? ⟨w.heap.size, 0, none⟩ = some (.slice (some ⟨p, o, none⟩) np cp) ∧ x.cell? ⟨w.heap.size + 1, 0, none⟩ = some (.bool pt.s) ∧ x.cell? ⟨w.heap.size + 1, 1, none⟩ = some (.int .i64 pt.H.toInt) ∧ x.cell? ⟨w.heap.size + 1, 2, none⟩ = some (.int .i64 pt.L.toInt) ∧ x.cell? ⟨w.heap.size + 1, 3, none⟩ = some (.int .i64 pt.b) ∧ x.cell? ⟨p, o + j * 5, none⟩ = some (.bool pq.p.s) ∧ x.cell? ⟨p, o + j * 5 + 1, none⟩ = some (.int .i64 pq.p.H.toInt) ∧ x.cell? ⟨p, o + j * 5 + 2, none⟩ = some (.int .i64 pq.p.L.toInt) ∧ x.cell? ⟨p, o + j * 5 + 3, none⟩ = some (.int .i64 pq.p.b) ∧ Below w3.heap.size w3 x)) (by kernel_rfl) ?_ (fun hHeld => ?_)
  · try dsimp only
    exact HSx.out _ ((Below.refl _ _).drew)
  refine wpAnyH_take (i := 0) (oi := ⟨some 9, _, _, _, _, _⟩) (v := ?_) rfl (by kernel_rfl) (by kernel_rfl) (by kernel_rfl) (fun _ _ _ h => h) (Or.inl ⟨by rfl, ?_⟩) (by assumption) ?_
  rotate_left
  · intro w hSw
    try dsimp only at hSw
    go_simp
    try with_reducible rfl
  simp only [Act.put, List.setIfInBounds_toArray, List.set_cons_zero, List.set_cons_succ]
  refine wpAnyH_take (i := 1) (oi := ⟨some 10, _, _, _, _, _⟩) (v := ?_) rfl (by kernel_rfl) (by kernel_rfl) (by kernel_rfl) (fun _ _ _ h => h) (Or.inl ⟨by rfl, ?_⟩) (by assumption) ?_
  rotate_left
  · intro w hSw
    try dsimp only at hSw
    go_simp
    try with_reducible rfl
  simp only [Act.put, List.setIfInBounds_toArray, List.set_cons_zero, List.set_cons_succ]
  refine wpAnyH_take (i := 2) (oi := ⟨some 11, _, _, _, _, _⟩) (v := ?_) rfl (by kernel_rfl) (by kernel_rfl) (by kernel_rfl) (fun _ _ _ h => h) (Or.inl ⟨by rfl, ?_⟩) (by assumption) ?_
  rotate_left
  · intro w hSw
    try dsimp only at hSw
    go_simp
    try with_reducible rfl
  simp only [Act.put, List.setIfInBounds_toArray, List.set_cons_zero, List.set_cons_succ]
  refine wpAnyH_take (i := 3) (oi := ⟨some 12, _, _, _, _, _⟩) (v := ?_) rfl (by kernel_rfl) (by kernel_rfl) (by kernel_rfl) (fun _ _ _ h => h) (Or.inl ⟨by rfl, ?_⟩) (by assumption) ?_
  rotate_left
  · intro w hSw
    try dsimp only at hSw
    go_simp
    try with_reducible rfl
  simp only [Act.put, List.setIfInBounds_toArray, List.set_cons_zero, List.set_cons_succ]
  refine wpAnyH_take (i := 4) (oi := ⟨some 13, _, _, _, _, _⟩) (v := ?_) rfl (by kernel_rfl) (by kernel_rfl) (by kernel_rfl) (fun _ _ _ h => h) (Or.inl ⟨by rfl, ?_⟩) (by assumption) ?_
  rotate_left
  · intro w hSw
    try dsimp only at hSw
    go_simp
    try with_reducible rfl
  simp only [Act.put, List.setIfInBounds_toArray, List.set_cons_zero, List.set_cons_succ]
  refine wpAnyH_take (i := 5) (oi := ⟨some 14, _, _, _, _, _⟩) (v := ?_) rfl (by kernel_rfl) (by kernel_rfl) (by kernel_rfl) (fun _ _ _ h => h) (Or.inl ⟨by rfl, ?_⟩) (by assumption) ?_
  rotate_left
  · intro w hSw
    try dsimp only at hSw
    go_simp
    try with_reducible rfl
  simp only [Act.put, List.setIfInBounds_toArray, List.set_cons_zero, List.set_cons_succ]
  refine wpAnyH_take (i := 6) (oi := ⟨some 15, _, _, _, _, _⟩) (v := ?_) rfl (by kernel_rfl) (by kernel_rfl) (by kernel_rfl) (fun _ _ _ h => h) (Or.inl ⟨by rfl, ?_⟩) (by assumption) ?_
  rotate_left
  · intro w hSw
    try dsimp only at hSw
    go_simp
    try with_reducible rfl
  simp only [Act.put, List.setIfInBounds_toArray, List.set_cons_zero, List.set_cons_succ]
  refine wpAnyH_take (i := 7) (oi := ⟨some 16, _, _, _, _, _⟩) (v := ?_) rfl (by kernel_rfl) (by kernel_rfl) (by kernel_rfl) (fun _ _ _ h => h) (Or.inl ⟨by rfl, ?_⟩) (by assumption) ?_
  rotate_left
  · intro w hSw
    try dsimp only at hSw
    go_simp
    try with_reducible rfl
  simp only [Act.put, List.setIfInBounds_toArray, List.set_cons_zero, List.set_cons_succ]
  refine wpAnyH_take (i := 8) (oi := ⟨some 17, _, _, _, _, _⟩) (v := ?_) rfl (by kernel_rfl) (by kernel_rfl) (by kernel_rfl) (fun _ _ _ h => h) (Or.inl ⟨by rfl, ?_⟩) (by assumption) ?_
  rotate_left
  · intro w hSw
    try dsimp only at hSw
    go_simp
    try with_reducible rfl
  simp only [Act.put, List.setIfInBounds_toArray, List.set_cons_zero, List.set_cons_succ]
  refine wpAnyH_take (i := 9) (oi := ⟨some 18, _, _, _, _, _⟩) (v := ?_) rfl (by kernel_rfl) (by kernel_rfl) (by kernel_rfl) (fun _ _ _ h => h) (Or.inl ⟨by rfl, ?_⟩) (by assumption) ?_
  rotate_left
  · intro w hSw
    try dsimp only at hSw
    go_simp
    try with_reducible rfl
  simp only [Act.put, List.setIfInBounds_toArray, List.set_cons_zero, List.set_cons_succ]
  refine wpAnyH_take (i := 10) (oi := ⟨some 19, _, _, _, _, _⟩) (v := ?_) rfl (by kernel_rfl) (by kernel_rfl) (by kernel_rfl) (fun _ _ _ h => h) (Or.inl ⟨by rfl, ?_⟩) (by assumption) ?_
  rotate_left
  · intro w hSw
    try dsimp only at hSw
    go_simp
    try with_reducible rfl
  simp only [Act.put, List.setIfInBounds_toArray, List.set_cons_zero, List.set_cons_succ]
  refine wpAnyH_take (i := 11) (oi := ⟨some 20, _, _, _, _, _⟩) (v := ?_) rfl (by kernel_rfl) (by kernel_rfl) (by kernel_rfl) (fun _ _ _ h => h) (Or.inl ⟨by rfl, ?_⟩) (by assumption) ?_
  rotate_left
  · intro w hSw
    try dsimp only at hSw
    go_simp
    try with_reducible rfl
  simp only [Act.put, List.setIfInBounds_toArray, List.set_cons_zero, List.set_cons_succ]
  have HE := hidP (hHeld.2.2.2.2.2.2.2.2.2)
  refine wpAnyH_done (by kernel_rfl) ?_ _
  clear hHeld
  go_wp2_with fail
  go_ret
  exact ⟨rfl, B3.out.trans (HE.out.mono B3.out.size)⟩

set_option maxRecDepth 10000 in
set_option maxHeartbeats 1000000 in
theorem exact_c (pt : Pf) (ap : Option Addr) (np cp : Nat) (ab : Option Addr) (nb cb : Nat) (ps : List Pl) (w : World) (hnp : np = ps.length) (hP : RowG KPl w ap ps) (hlp : np ≤ 9000000000) (j : Nat) (pq : Pl) (hk : lpF pt 0 ps = (j : Int)) (hx : ps[j]? = some pq) (heq : peqB pq.p pt = false) :
    Calls Try.prog 60 #[.agg #[.slice ap np cp, .slice ab nb cb], .agg #[.bool pt.s, .int .i64 pt.H.toInt, .int .i64 pt.L.toInt, .int .i64 pt.b]] w fun e w' => e = .returned (.int .i64 (-1)) ∧ Below w.heap.size w w' := by
  have HL := hidP (fun W h => l5Pool_any pt ap np cp ab nb cb ps W hnp (hP.later h) hlp)
  rw [hk] at HL
  have HB := hidP hP
  have HN := hidP hnp
  clear hP hnp
  have hjn : j < np := by
    rw [HN.out]
    rcases Nat.lt_or_ge j ps.length with h' | h'
    · exact h'
    · rw [List.getElem?_eq_none h'] at hx; cases hx
  have wj : IntKind.i64.wrap (j : Int) = (j : Int) := by rw [IntKind.wrap_i64]; omega
  have hj0 : (0 : Int) ≤ (j : Int) := by omega
  have hj1 : (j : Int) < (np : Int) := by omega
  have gj : decide ((0 : Int) ≤ (j : Int)) = true := decide_eq_true (by omega)
  obtain ⟨p, o, x2, rfl, hp, hx2, c0, c1, c2, c3, c4⟩ := rowPl HB.out j (by rw [← HN.out]; exact hjn)
  rw [hx] at hx2
  cases hx2
  have hq := eqPfx pq.p pt
  rw [heq] at hq
  clear hx heq c4 HB
  go_enter Try.func60, Try.ntmps60
  go_wp2_with fail
  obtain ⟨u0, u1⟩ := box2 (u := .slice (some ⟨p, o, none⟩) np cp) (v := .slice ab nb cb) w 32
  have uB := alloc_below w (.cells #[.slice (some ⟨p, o, none⟩) np cp, .slice ab nb cb] 32)
  have uL := alloc_lt w (.cells #[.slice (some ⟨p, o, none⟩) np cp, .slice ab nb cb] 32)
  have uS : (w.alloc (.cells #[.slice (some ⟨p, o, none⟩) np cp, .slice ab nb cb] 32)).heap.size = w.heap.size + 1 := by simp
  generalize w.alloc (.cells #[.slice (some ⟨p, o, none⟩) np cp, .slice ab nb cb] 32) = W1 at *
  obtain ⟨y0, y1, y2, y3⟩ := box4 (p := pt) W1 46
  have yB := alloc_below W1 (.cells #[.bool pt.s, .int .i64 pt.H.toInt, .int .i64 pt.L.toInt, .int .i64 pt.b] 46)
  have yL := alloc_lt W1 (.cells #[.bool pt.s, .int .i64 pt.H.toInt, .int .i64 pt.L.toInt, .int .i64 pt.b] 46)
  have yS : (W1.alloc (.cells #[.bool pt.s, .int .i64 pt.H.toInt, .int .i64 pt.L.toInt, .int .i64 pt.b] 46)).heap.size = W1.heap.size + 1 := by simp
  generalize W1.alloc (.cells #[.bool pt.s, .int .i64 pt.H.toInt, .int .i64 pt.L.toInt, .int .i64 pt.b] 46) = W2 at *
  rw [uS] at y0 y1 y2 y3 yL yS
  have s0 := (yB.cell uL).trans u0
  have sL : w.heap.size < W2.heap.size := by omega
  have HUB := hidP (uB.trans (yB.mono uB.size))
  clear uB yB uS yS u0 u1 uL
  refine (HL.out _ HUB.out).mono ?_
  rintro e w3 ⟨rfl, hb3⟩
  have z0 := (hb3.cell sL).trans s0
  have zL : w.heap.size < w3.heap.size := Nat.lt_of_lt_of_le sL hb3.size
  have r0 := (hb3.cell yL).trans y0
  have r1 := (hb3.cell yL).trans y1
  have r2 := (hb3.cell yL).trans y2
  have r3 := (hb3.cell yL).trans y3
  have rL : w.heap.size + 1 < w3.heap.size := Nat.lt_of_lt_of_le yL hb3.size
  have B3 := hidP (HUB.out.trans (hb3.mono HUB.out.size))
  have d0 := (B3.out.cell hp).trans c0
  have d1 := (B3.out.cell hp).trans c1
  have d2 := (B3.out.cell hp).trans c2
  have d3 := (B3.out.cell hp).trans c3
  have dL : p < w3.heap.size := Nat.lt_of_lt_of_le hp B3.out.size
  clear hb3 s0 y0 y1 y2 y3
  go_wp2_with fail
  have HSx : Hid (∀ x, Below w3.heap.size w3 x → (x.cell? ⟨w.heap.size, 0, none⟩ = some (.slice (some ⟨p, o, none⟩) np cp) ∧ x.cell? ⟨w.heap.size + 1, 0, none⟩ = some (.bool pt.s) ∧ x.cell? ⟨w.heap.size + 1, 1, none⟩ = some (.int .i64 pt.H.toInt) ∧ x.cell? ⟨w.heap.size + 1, 2, none⟩ = some (.int .i64 pt.L.toInt) ∧ x.cell? ⟨w.heap.size + 1, 3, none⟩ = some (.int .i64 pt.b) ∧ x.cell? ⟨p, o + j * 5, none⟩ = some (.bool pq.p.s) ∧ x.cell? ⟨p, o + j * 5 + 1, none⟩ = some (.int .i64 pq.p.H.toInt) ∧ x.cell? ⟨p, o + j * 5 + 2, none⟩ = some (.int .i64 pq.p.L.toInt) ∧ x.cell? ⟨p, o + j * 5 + 3, none⟩ = some (.int .i64 pq.p.b) ∧ Below w3.heap.size w3 x)) := hidP fun x h =>
    ⟨(h.cell zL).trans z0, (h.cell rL).trans r0, (h.cell rL).trans r1, (h.cell rL).trans r2, (h.cell rL).trans r3, (h.cell dL).trans d0, (h.cell dL).trans d1, (h.cell dL).trans d2, (h.cell dL).trans d3, h⟩
  refine wp_region_held_drew (S := (fun x => x.cell? ⟨w.heap.size, 0, none⟩ = some (.slice (some ⟨p, o, none⟩) np cp) ∧ x.cell? ⟨w.heap.size + 1, 0, none⟩ = some (.bool pt.s) ∧ x.cell? ⟨w.heap.size + 1, 1, none⟩ = some (.int .i64 pt.H.toInt) ∧ x.cell? ⟨w.heap.size + 1, 2, none⟩ = some (.int .i64 pt.L.toInt) ∧ x.cell? ⟨w.heap.size + 1, 3, none⟩ = some (.int .i64 pt.b) ∧ x.cell? ⟨p, o + j * 5, none⟩ = some (.bool pq.p.s) ∧ x.cell? ⟨p, o + j * 5 + 1, none⟩ = some (.int .i64 pq.p.H.toInt) ∧ x.cell? ⟨p, o + j * 5 + 2, none⟩ = some (.int .i64 pq.p.L.toInt) ∧ x.cell? ⟨p, o + j * 5 + 3, none⟩ = some (.int .i64 pq.p.b) ∧ Below w3.heap.size w3 x)) (by kernel_rfl) ?_ (fun hHeld => ?_)
  · try dsimp only
    exact HSx.out _ ((Below.refl _ _).drew)
  refine wpAnyH_take (i := 0) (oi := ⟨some 9, _, _, _, _, _⟩) (v := ?_) rfl (by kernel_rfl) (by kernel_rfl) (by kernel_rfl) (fun _ _ _ h => h) (Or.inl ⟨by rfl, ?_⟩) (by assumption) ?_
  rotate_left
  · intro w hSw
    try dsimp only at hSw
    go_simp
    try with_reducible rfl
  simp only [Act.put, List.setIfInBounds_toArray, List.set_cons_zero, List.set_cons_succ]
  refine wpAnyH_take (i := 1) (oi := ⟨some 10, _, _, _, _, _⟩) (v := ?_) rfl (by kernel_rfl) (by kernel_rfl) (by kernel_rfl) (fun _ _ _ h => h) (Or.inl ⟨by rfl, ?_⟩) (by assumption) ?_
  rotate_left
  · intro w hSw
    try dsimp only at hSw
    go_simp
    try with_reducible rfl
  simp only [Act.put, List.setIfInBounds_toArray, List.set_cons_zero, List.set_cons_succ]
  refine wpAnyH_take (i := 2) (oi := ⟨some 11, _, _, _, _, _⟩) (v := ?_) rfl (by kernel_rfl) (by kernel_rfl) (by kernel_rfl) (fun _ _ _ h => h) (Or.inl ⟨by rfl, ?_⟩) (by assumption) ?_
  rotate_left
  · intro w hSw
    try dsimp only at hSw
    go_simp
    try with_reducible rfl
  simp only [Act.put, List.setIfInBounds_toArray, List.set_cons_zero, List.set_cons_succ]
  refine wpAnyH_take (i := 3) (oi := ⟨some 12, _, _, _, _, _⟩) (v := ?_) rfl (by kernel_rfl) (by kernel_rfl) (by kernel_rfl) (fun _ _ _ h => h) (Or.inl ⟨by rfl, ?_⟩) (by assumption) ?_
  rotate_left
  · intro w hSw
    try dsimp only at hSw
    go_simp
    try with_reducible rfl
  simp only [Act.put, List.setIfInBounds_toArray, List.set_cons_zero, List.set_cons_succ]
  refine wpAnyH_take (i := 4) (oi := ⟨some 13, _, _, _, _, _⟩) (v := ?_) rfl (by kernel_rfl) (by kernel_rfl) (by kernel_rfl) (fun _ _ _ h => h) (Or.inl ⟨by rfl, ?_⟩) (by assumption) ?_
  rotate_left
  · intro w hSw
    try dsimp only at hSw
    go_simp
    try with_reducible rfl
  simp only [Act.put, List.setIfInBounds_toArray, List.set_cons_zero, List.set_cons_succ]
  refine wpAnyH_take (i := 5) (oi := ⟨some 14, _, _, _, _, _⟩) (v := ?_) rfl (by kernel_rfl) (by kernel_rfl) (by kernel_rfl) (fun _ _ _ h => h) (Or.inl ⟨by rfl, ?_⟩) (by assumption) ?_
  rotate_left
  · intro w hSw
    try dsimp only at hSw
    go_simp
    try with_reducible rfl
  simp only [Act.put, List.setIfInBounds_toArray, List.set_cons_zero, List.set_cons_succ]
  refine wpAnyH_take (i := 6) (oi := ⟨some 15, _, _, _, _, _⟩) (v := ?_) rfl (by kernel_rfl) (by kernel_rfl) (by kernel_rfl) (fun _ _ _ h => h) (Or.inl ⟨by rfl, ?_⟩) (by assumption) ?_
  rotate_left
  · intro w hSw
    try dsimp only at hSw
    go_simp
    try with_reducible rfl
  simp only [Act.put, List.setIfInBounds_toArray, List.set_cons_zero, List.set_cons_succ]
  refine wpAnyH_take (i := 7) (oi := ⟨some 16, _, _, _, _, _⟩) (v := ?_) rfl (by kernel_rfl) (by kernel_rfl) (by kernel_rfl) (fun _ _ _ h => h) (Or.inl ⟨by rfl, ?_⟩) (by assumption) ?_
  rotate_left
  · intro w hSw
    try dsimp only at hSw
    go_simp
    try with_reducible rfl
  simp only [Act.put, List.setIfInBounds_toArray, List.set_cons_zero, List.set_cons_succ]
  refine wpAnyH_take (i := 8) (oi := ⟨some 17, _, _, _, _, _⟩) (v := ?_) rfl (by kernel_rfl) (by kernel_rfl) (by kernel_rfl) (fun _ _ _ h => h) (Or.inl ⟨by rfl, ?_⟩) (by assumption) ?_
  rotate_left
  · intro w hSw
    try dsimp only at hSw
    go_simp
    try with_reducible rfl
  simp only [Act.put, List.setIfInBounds_toArray, List.set_cons_zero, List.set_cons_succ]
  refine wpAnyH_take (i := 9) (oi := ⟨some 18, _, _, _, _, _⟩) (v := ?_) rfl (by kernel_rfl) (by kernel_rfl) (by kernel_rfl) (fun _ _ _ h => h) (Or.inl ⟨by rfl, ?_⟩) (by assumption) ?_
  rotate_left
  · intro w hSw
    try dsimp only at hSw
    go_simp
    try with_reducible rfl
  simp only [Act.put, List.setIfInBounds_toArray, List.set_cons_zero, List.set_cons_succ]
  refine wpAnyH_take (i := 10) (oi := ⟨some 19, _, _, _, _, _⟩) (v := ?_) rfl (by kernel_rfl) (by kernel_rfl) (by kernel_rfl) (fun _ _ _ h => h) (Or.inl ⟨by rfl, ?_⟩) (by assumption) ?_
  rotate_left
  · intro w hSw
    try dsimp only at hSw
    go_simp
    try with_reducible rfl
  simp only [Act.put, List.setIfInBounds_toArray, List.set_cons_zero, List.set_cons_succ]
  refine wpAnyH_take (i := 11) (oi := ⟨some 20, _, _, _, _, _⟩) (v := ?_) rfl (by kernel_rfl) (by kernel_rfl) (by kernel_rfl) (fun _ _ _ h => h) (Or.inl ⟨by rfl, ?_⟩) (by assumption) ?_
  rotate_left
  · intro w hSw
    try dsimp only at hSw
    go_simp
    try with_reducible rfl
  simp only [Act.put, List.setIfInBounds_toArray, List.set_cons_zero, List.set_cons_succ]
  have HE := hidP (hHeld.2.2.2.2.2.2.2.2.2)
  refine wpAnyH_done (by kernel_rfl) ?_ _
  clear hHeld
  go_wp2_with fail
  go_ret
  exact ⟨rfl, B3.out.trans (HE.out.mono B3.out.size)⟩

/-- What is a pool's own prefix lies in it alone. -/
theorem win_self {p : Pf} (h : p.pk = true) : winP p p = true := by
  have hz : 0 < 2 ^ p.sz := Nat.pow_pos (by omega)
  exact (win_iff h h).2 ⟨rfl, Int.le_refl _, Nat.le_refl _, by omega⟩
theorem plc_shift (p : Pf) : ∀ (ps : List Pl) (i : Nat), (∀ q ∈ ps, peqB q.p p = false) → ixF (fun q => peqB q.p p) i ps = -1
  | [], _, _ => rfl
  | q :: t, i, h => by
      unfold ixF
      rw [h q List.mem_cons_self, if_neg (by simp)]
      exact plc_shift p t (i + 1) (fun x hx => h x (List.mem_cons_of_mem _ hx))
theorem plc_exact (p : Pf) (hp : p.pk = true) : ∀ (ps : List Pl) (i : Nat), Dsj ps →
    (lpF p i ps = -1 ∧ ixF (fun q => peqB q.p p) i ps = -1) ∨ ∃ j x, lpF p i ps = ((i + j : Nat) : Int) ∧ ps[j]? = some x ∧ ixF (fun q => peqB q.p p) i ps = if peqB x.p p = true then ((i + j : Nat) : Int) else -1
  | [], _, _ => Or.inl ⟨rfl, rfl⟩
  | q :: t, i, hd => by
      have hpw := List.pairwise_cons.1 hd.1
      unfold lpF ixF
      by_cases hw : winP p q.p = true
      · rw [if_pos hw]
        refine Or.inr ⟨0, q, rfl, rfl, ?_⟩
        cases he : peqB q.p p
        · rw [if_neg (by simp), if_neg (by simp)]
          refine plc_shift p t (i + 1) (fun x hx => ?_)
          cases hx2 : peqB x.p p
          · rfl
          · exfalso
            have hxe := peq_iff.1 hx2
            have hxw : winP p x.p = true := by rw [hxe]; exact win_self hp
            exact fol_not hw hxw (hpw.1 x hx)
        · rw [if_pos rfl, if_pos rfl]; rfl
      · have he : peqB q.p p = false := by
          cases he : peqB q.p p
          · rfl
          · exfalso; apply hw; rw [peq_iff.1 he]; exact win_self hp
        rw [if_neg hw, he, if_neg (by simp)]
        rcases plc_exact p hp t (i + 1) ⟨hpw.2, fun x hx => hd.2 x (List.mem_cons_of_mem _ hx)⟩ with ⟨h1, h2⟩ | ⟨j, x, h1, h2, h3⟩
        · exact Or.inl ⟨h1, h2⟩
        · refine Or.inr ⟨j + 1, x, ?_, by simpa using h2, ?_⟩
          · rw [show ((i : Int) + 1) = ((i + 1 : Nat) : Int) by omega, h1]; congr 1; omega
          · rw [show ((i : Int) + 1) = ((i + 1 : Nat) : Int) by omega, h3, show i + 1 + j = i + (j + 1) by omega]
theorem l5Exact_any (pt : Pf) (hpk : pt.pk = true) (ap : Option Addr) (np cp : Nat) (ab : Option Addr) (nb cb : Nat) (ps : List Pl) (hd : Dsj ps) (w : World) (hnp : np = ps.length) (hP : RowG KPl w ap ps) (hlp : np ≤ 9000000000) :
    Calls Try.prog 60 #[.agg #[.slice ap np cp, .slice ab nb cb], .agg #[.bool pt.s, .int .i64 pt.H.toInt, .int .i64 pt.L.toInt, .int .i64 pt.b]] w fun e w' => e = .returned (.int .i64 (plc pt ps)) ∧ Below w.heap.size w w' := by
  unfold plc
  rcases plc_exact pt hpk ps 0 hd with ⟨h1, h2⟩ | ⟨j, x, h1, h2, h3⟩
  · have h2' : ixF (fun q => peqB q.p pt) 0 ps = -1 := h2
    rw [h2']
    exact exact_a pt ap np cp ab nb cb ps w hnp hP hlp h1
  · rw [Nat.zero_add] at h1 h3
    have h3' : ixF (fun q => peqB q.p pt) 0 ps = if peqB x.p pt = true then (j : Int) else -1 := h3
    rw [h3']
    cases he : peqB x.p pt
    · rw [if_neg (by simp)]
      exact exact_c pt ap np cp ab nb cb ps w hnp hP hlp j x h1 h2 he
    · rw [if_pos rfl]
      exact exact_b pt ap np cp ab nb cb ps w hnp hP hlp j x h1 h2 he

end Go.Proofs.Ythbpehpnikknlaa

namespace Go.Proofs.Ythbpehpnikknlaa
open Go.RowKit

/-- The prefixes of the blocks that lie in p. -/
def fil (bs : List Bk) (p : Pf) : List Pf := (bs.filter fun b => winP b.p p).map (·.p)
theorem fil_snoc (bs : List Bk) (p : Pf) (k : Nat) (q : Bk) (h : bs[k]? = some q) : fil (bs.take (k + 1)) p = fil (bs.take k) p ++ (if winP q.p p = true then [q.p] else []) := by
  unfold fil
  rw [List.take_add_one, h, List.filter_append, List.map_append]
  congr 1
  simp only [Option.toList_some]
  cases hw : winP q.p p <;> simp [hw]
theorem fil_len (bs : List Bk) (p : Pf) (k : Nat) : (fil (bs.take k) p).length ≤ k := by
  unfold fil
  rw [List.length_map]
  have := List.length_filter_le (fun b => winP b.p p) (bs.take k)
  rw [List.length_take] at this; omega

set_option maxRecDepth 10000 in
set_option maxHeartbeats 2000000 in
theorem blocksIn_any (pt : Pf) (ap : Option Addr) (np cp : Nat) (ab : Option Addr) (nb cb : Nat) (bs : List Bk) (w : World) (hnb : nb = bs.length) (hK : RowG KBk w ab bs) (hl : nb ≤ 1048576) :
    Calls Try.prog 64 #[.agg #[.slice ap np cp, .slice ab nb cb], .agg #[.bool pt.s, .int .i64 pt.H.toInt, .int .i64 pt.L.toInt, .int .i64 pt.b]] w fun e w' => ∃ a c, e = .returned (.slice a (fil bs pt).length c) ∧ OwnR 46 w' w.heap.size (.slice a (fil bs pt).length c) (fil bs pt) ∧ Below w.heap.size w w' := by
  have HBK := hidP hK
  have HN := hidP hnb
  clear hK hnb
  go_enter Try.func64, Try.ntmps64
  go_wp2_with fail
  obtain ⟨u0, u1⟩ := box2 (u := .slice ap np cp) (v := .slice ab nb cb) w 32
  have uB := alloc_below w (.cells #[.slice ap np cp, .slice ab nb cb] 32)
  have uL := alloc_lt w (.cells #[.slice ap np cp, .slice ab nb cb] 32)
  have uS : (w.alloc (.cells #[.slice ap np cp, .slice ab nb cb] 32)).heap.size = w.heap.size + 1 := by simp
  generalize w.alloc (.cells #[.slice ap np cp, .slice ab nb cb] 32) = W1 at *
  obtain ⟨y0, y1, y2, y3⟩ := box4 (p := pt) W1 46
  have yB := alloc_below W1 (.cells #[.bool pt.s, .int .i64 pt.H.toInt, .int .i64 pt.L.toInt, .int .i64 pt.b] 46)
  have yL := alloc_lt W1 (.cells #[.bool pt.s, .int .i64 pt.H.toInt, .int .i64 pt.L.toInt, .int .i64 pt.b] 46)
  have yS : (W1.alloc (.cells #[.bool pt.s, .int .i64 pt.H.toInt, .int .i64 pt.L.toInt, .int .i64 pt.b] 46)).heap.size = W1.heap.size + 1 := by simp
  generalize W1.alloc (.cells #[.bool pt.s, .int .i64 pt.H.toInt, .int .i64 pt.L.toInt, .int .i64 pt.b] 46) = W2 at *
  rw [uS] at y0 y1 y2 y3 yL yS
  have s1 := (yB.cell uL).trans u1
  have sL : w.heap.size < W2.heap.size := by omega
  have HUB := hidP (uB.trans (yB.mono uB.size))
  have HK2 := hidP (HBK.out.later HUB.out)
  have hs2 : w.heap.size + 1 + 1 = W2.heap.size := by omega
  clear uB yB uS yS u0 u1 HBK uL
  clear hs2
  go_loopw [5, 7, 11] (fun t5 _ t11 wr => ∃ (k m : Nat) (ad : Option Addr) (c : Nat), k ≤ nb ∧ t11 = .int .i64 k ∧ t5 = .slice ad m c ∧ m = (fil (bs.take k) pt).length ∧ OwnR 46 wr W2.heap.size (.slice ad m c) (fil (bs.take k) pt) ∧ Below W2.heap.size W2 wr) (fun _ _ t11 _ => nb - (intOf t11).toNat)
  case atStart => exact ⟨0, 0, none, 0, Nat.zero_le _, rfl, rfl, rfl, own_none _ _ _, Below.refl _ _⟩
  case round =>
    obtain ⟨k, m, ad, c, hk, rfl, rfl, hm, hown, hbel⟩ := hrel
    have HM := hidP hm
    have HO := hidP hown
    have HBel := hidP hbel
    have hmk : m ≤ k := by rw [hm]; exact fil_len bs pt k
    by_cases hlt : k < nb
    · obtain ⟨p, o, q, rfl, hp, hq, c0, c1, c2, c3, c4⟩ := rowBk HK2.out k (by rw [← HN.out]; exact hlt)
      have d0 := (hbel.cell hp).trans c0
      have d1 := (hbel.cell hp).trans c1
      have d2 := (hbel.cell hp).trans c2
      have d3 := (hbel.cell hp).trans c3
      have d4 := (hbel.cell hp).trans c4
      have r0 := (hbel.cell yL).trans y0
      have r1 := (hbel.cell yL).trans y1
      have r2 := (hbel.cell yL).trans y2
      have r3 := (hbel.cell yL).trans y3
      have rL : w.heap.size + 1 < wr.heap.size := Nat.lt_of_lt_of_le yL hbel.size
      have hWr : W2.heap.size ≤ wr.heap.size := hbel.size
      have HSn := hidP (fil_snoc bs pt k q hq)
      have HWi := hidP (iWithin_any q.p.s q.p.H q.p.L q.p.b pt.s pt.H pt.L pt.b)
      change Hid (∀ w, Calls Try.prog 89 _ w fun e w' => e = .returned (.bool (winP q.p pt)) ∧ Below w.heap.size w w') at HWi
      clear c0 c1 c2 c3 c4 hq hbel hown hm
      cases hw : winP q.p pt
      · rw [hw] at HWi HSn
        go_wp2_with fail
        obtain ⟨x0, x1, x2, x3, x4⟩ := boxBk (q := q) wr 56
        have xB := alloc_below wr (.cells #[.bool q.p.s, .int .i64 q.p.H.toInt, .int .i64 q.p.L.toInt, .int .i64 q.p.b, .string q.t] 56)
        have xL := alloc_lt wr (.cells #[.bool q.p.s, .int .i64 q.p.H.toInt, .int .i64 q.p.L.toInt, .int .i64 q.p.b, .string q.t] 56)
        have xS : (wr.alloc (.cells #[.bool q.p.s, .int .i64 q.p.H.toInt, .int .i64 q.p.L.toInt, .int .i64 q.p.b, .string q.t] 56)).heap.size = wr.heap.size + 1 := by simp
        generalize wr.alloc (.cells #[.bool q.p.s, .int .i64 q.p.H.toInt, .int .i64 q.p.L.toInt, .int .i64 q.p.b, .string q.t] 56) = W3 at *
        have HX3 := hidP xB
        clear xB xS
        refine (HWi.out _).mono ?_
        rintro e w4 ⟨rfl, hb4⟩
        have e0 := (hb4.cell xL).trans x0
        have e1 := (hb4.cell xL).trans x1
        have e2 := (hb4.cell xL).trans x2
        have e3 := (hb4.cell xL).trans x3
        have e4 := (hb4.cell xL).trans x4
        have hr4 : Below wr.heap.size wr w4 := HX3.out.trans (hb4.mono HX3.out.size)
        have HB4 := hidP (HBel.out.trans (hr4.mono HBel.out.size))
        have HO4 := hidP (HO.out.later hr4)
        have hW4 : W2.heap.size ≤ w4.heap.size := Nat.le_trans hWr hr4.size
        clear hb4 hr4 x0 x1 x2 x3 x4 d0 d1 d2 d3 d4
        go_wp2_with fail
        go_roundw
        case rel => exact ⟨k + 1, m, ad, c, by omega, by go_num, rfl, by rw [HSn.out]; simpa using HM.out, by rw [HSn.out]; simpa using HO4.out, HB4.out⟩
        case measure => simp [intOf]; omega
      · rw [hw] at HWi HSn
        rw [if_pos rfl] at HSn
        go_wp2_with fail
        obtain ⟨x0, x1, x2, x3, x4⟩ := boxBk (q := q) wr 56
        have xB := alloc_below wr (.cells #[.bool q.p.s, .int .i64 q.p.H.toInt, .int .i64 q.p.L.toInt, .int .i64 q.p.b, .string q.t] 56)
        have xL := alloc_lt wr (.cells #[.bool q.p.s, .int .i64 q.p.H.toInt, .int .i64 q.p.L.toInt, .int .i64 q.p.b, .string q.t] 56)
        have xS : (wr.alloc (.cells #[.bool q.p.s, .int .i64 q.p.H.toInt, .int .i64 q.p.L.toInt, .int .i64 q.p.b, .string q.t] 56)).heap.size = wr.heap.size + 1 := by simp
        generalize wr.alloc (.cells #[.bool q.p.s, .int .i64 q.p.H.toInt, .int .i64 q.p.L.toInt, .int .i64 q.p.b, .string q.t] 56) = W3 at *
        have HX3 := hidP xB
        clear xB xS
        refine (HWi.out _).mono ?_
        rintro e w4 ⟨rfl, hb4⟩
        have e0 := (hb4.cell xL).trans x0
        have e1 := (hb4.cell xL).trans x1
        have e2 := (hb4.cell xL).trans x2
        have e3 := (hb4.cell xL).trans x3
        have e4 := (hb4.cell xL).trans x4
        have hr4 : Below wr.heap.size wr w4 := HX3.out.trans (hb4.mono HX3.out.size)
        have HB4 := hidP (HBel.out.trans (hr4.mono HBel.out.size))
        have HO4 := hidP (HO.out.later hr4)
        have hW4 : W2.heap.size ≤ w4.heap.size := Nat.le_trans hWr hr4.size
        clear hb4 hr4 x0 x1 x2 x3 x4 d0 d1 d2 d3 d4
        go_wp2_with (at_builtin; refine wpList_appR Try.fourP _ rfl (.tmp 19) (.tmp 22) 86 rfl W2.heap.size ad m c 1 (fil (bs.take k) pt) [q.p] (.slice (some ⟨w4.heap.size, 0, none⟩) 1 1) rfl HM.out rfl (HO4.out.alloc _) rfl (src_row Try.fourP 1 1 rfl (row_one w4 46 q.p) (by simp)) (by omega) (by simp; omega) ?_; intro a6 c6 w5 ho5 hg5 ht5)
        go_roundw
        case rel => exact ⟨k + 1, m + 1, a6, c6, by omega, by go_num, rfl, by rw [HSn.out, List.length_append, ← HM.out]; rfl, by rw [HSn.out]; exact ho5, below_appR (HB4.out.alloc hW4 _) (HO4.out.alloc _) (by simp; omega) hg5⟩
        case measure => simp [intOf]; omega
    · have eT : bs.take k = bs := List.take_of_length_le (by have := HN.out; omega)
      rw [eT] at HM HO
      clear eT hown hm hbel
      have HF := hidP (And.intro HM.out (And.intro (HO.out.mono HUB.out.size) (HUB.out.trans (HBel.out.mono HUB.out.size))))
      go_wp2_with fail
      go_ret
      refine ⟨ad, c, ?_, ?_, HF.out.2.2⟩
      · rw [← HF.out.1]; rfl
      · rw [← HF.out.1]; exact HF.out.2.1

set_option maxRecDepth 10000 in
set_option maxHeartbeats 2000000 in
theorem l5Blocks_any (pt : Pf) (ap : Option Addr) (np cp : Nat) (ab : Option Addr) (nb cb : Nat) (bs : List Bk) (w : World) (hnb : nb = bs.length) (hK : RowG KBk w ab bs) (hl : nb ≤ 1048576) :
    Calls Try.prog 61 #[.agg #[.slice ap np cp, .slice ab nb cb], .agg #[.bool pt.s, .int .i64 pt.H.toInt, .int .i64 pt.L.toInt, .int .i64 pt.b]] w fun e w' => ∃ a c, e = .returned (.slice a (fil bs pt).length c) ∧ OwnR 46 w' w.heap.size (.slice a (fil bs pt).length c) (fil bs pt) ∧ Below w.heap.size w w' := by
  have HBK := hidP hK
  have HN := hidP hnb
  clear hK hnb
  go_enter Try.func61, Try.ntmps61
  go_wp2_with fail
  obtain ⟨u0, u1⟩ := box2 (u := .slice ap np cp) (v := .slice ab nb cb) w 32
  have uB := alloc_below w (.cells #[.slice ap np cp, .slice ab nb cb] 32)
  have uL := alloc_lt w (.cells #[.slice ap np cp, .slice ab nb cb] 32)
  have uS : (w.alloc (.cells #[.slice ap np cp, .slice ab nb cb] 32)).heap.size = w.heap.size + 1 := by simp
  generalize w.alloc (.cells #[.slice ap np cp, .slice ab nb cb] 32) = W1 at *
  obtain ⟨y0, y1, y2, y3⟩ := box4 (p := pt) W1 46
  have yB := alloc_below W1 (.cells #[.bool pt.s, .int .i64 pt.H.toInt, .int .i64 pt.L.toInt, .int .i64 pt.b] 46)
  have yL := alloc_lt W1 (.cells #[.bool pt.s, .int .i64 pt.H.toInt, .int .i64 pt.L.toInt, .int .i64 pt.b] 46)
  have yS : (W1.alloc (.cells #[.bool pt.s, .int .i64 pt.H.toInt, .int .i64 pt.L.toInt, .int .i64 pt.b] 46)).heap.size = W1.heap.size + 1 := by simp
  generalize W1.alloc (.cells #[.bool pt.s, .int .i64 pt.H.toInt, .int .i64 pt.L.toInt, .int .i64 pt.b] 46) = W2 at *
  rw [uS] at y0 y1 y2 y3 yL yS
  have s1 := (yB.cell uL).trans u1
  have sL : w.heap.size < W2.heap.size := by omega
  have HUB := hidP (uB.trans (yB.mono uB.size))
  have HK2 := hidP (HBK.out.later HUB.out)
  have hs2 : w.heap.size + 1 + 1 = W2.heap.size := by omega
  clear uB yB uS yS u0 u1 HBK uL
  have HZ : Hid (OwnR 46 (W2.alloc (.cells #[] 46)) W2.heap.size (.slice (some ⟨w.heap.size + 1 + 1, 0, none⟩) 0 0) []) := hidP (by rw [hs2]; exact own_zero W2 W2.heap.size 46 (Nat.le_refl _))
  have HZB := hidP (alloc_below W2 (.cells #[] 46))
  clear hs2
  go_loopw [5, 6] (fun t5 t6 wr => ∃ (k m : Nat) (ad : Option Addr) (c : Nat), k ≤ nb ∧ t6 = .int .i64 k ∧ t5 = .slice ad m c ∧ m = (fil (bs.take k) pt).length ∧ OwnR 46 wr W2.heap.size (.slice ad m c) (fil (bs.take k) pt) ∧ Below W2.heap.size W2 wr) (fun _ t6 _ => nb - (intOf t6).toNat)
  case atStart => exact ⟨0, 0, _, 0, Nat.zero_le _, rfl, rfl, rfl, HZ.out, HZB.out⟩
  case round =>
    obtain ⟨k, m, ad, c, hk, rfl, rfl, hm, hown, hbel⟩ := hrel
    have HM := hidP hm
    have HO := hidP hown
    have HBel := hidP hbel
    have hmk : m ≤ k := by rw [hm]; exact fil_len bs pt k
    have v1 := (hbel.cell sL).trans s1
    have vL : w.heap.size < wr.heap.size := Nat.lt_of_lt_of_le sL hbel.size
    by_cases hlt : k < nb
    · obtain ⟨p, o, q, rfl, hp, hq, c0, c1, c2, c3, c4⟩ := rowBk HK2.out k (by rw [← HN.out]; exact hlt)
      have d0 := (hbel.cell hp).trans c0
      have d1 := (hbel.cell hp).trans c1
      have d2 := (hbel.cell hp).trans c2
      have d3 := (hbel.cell hp).trans c3
      have dL : p < wr.heap.size := Nat.lt_of_lt_of_le hp hbel.size
      have r0 := (hbel.cell yL).trans y0
      have r1 := (hbel.cell yL).trans y1
      have r2 := (hbel.cell yL).trans y2
      have r3 := (hbel.cell yL).trans y3
      have rL : w.heap.size + 1 < wr.heap.size := Nat.lt_of_lt_of_le yL hbel.size
      have hWr : W2.heap.size ≤ wr.heap.size := hbel.size
      have HSn := hidP (fil_snoc bs pt k q hq)
      have HWi := hidP (sWithin_any q.p.s q.p.H q.p.L q.p.b pt.s pt.H pt.L pt.b)
      change Hid (∀ w, Calls Try.prog 72 _ w fun e w' => e = .returned (.bool (winP q.p pt)) ∧ Below w.heap.size w w') at HWi
      clear c0 c1 c2 c3 c4 hq hbel hown hm
      cases hw : winP q.p pt
      · rw [hw] at HWi HSn
        go_wp2_with fail
        have HSx : Hid (∀ x, Below wr.heap.size wr x → (x.cell? ⟨p, o + k * 5, none⟩ = some (.bool q.p.s) ∧ x.cell? ⟨p, o + k * 5 + 1, none⟩ = some (.int .i64 q.p.H.toInt) ∧ x.cell? ⟨p, o + k * 5 + 2, none⟩ = some (.int .i64 q.p.L.toInt) ∧ x.cell? ⟨p, o + k * 5 + 3, none⟩ = some (.int .i64 q.p.b) ∧ x.cell? ⟨w.heap.size, 1, none⟩ = some (.slice (some ⟨p, o, none⟩) nb cb) ∧ x.cell? ⟨w.heap.size + 1, 0, none⟩ = some (.bool pt.s) ∧ x.cell? ⟨w.heap.size + 1, 1, none⟩ = some (.int .i64 pt.H.toInt) ∧ x.cell? ⟨w.heap.size + 1, 2, none⟩ = some (.int .i64 pt.L.toInt) ∧ x.cell? ⟨w.heap.size + 1, 3, none⟩ = some (.int .i64 pt.b) ∧ Below wr.heap.size wr x)) := hidP fun x h =>
          ⟨(h.cell dL).trans d0, (h.cell dL).trans d1, (h.cell dL).trans d2, (h.cell dL).trans d3, (h.cell vL).trans v1, (h.cell rL).trans r0, (h.cell rL).trans r1, (h.cell rL).trans r2, (h.cell rL).trans r3, h⟩
        refine wp_region_held_drew (S := (fun x => x.cell? ⟨p, o + k * 5, none⟩ = some (.bool q.p.s) ∧ x.cell? ⟨p, o + k * 5 + 1, none⟩ = some (.int .i64 q.p.H.toInt) ∧ x.cell? ⟨p, o + k * 5 + 2, none⟩ = some (.int .i64 q.p.L.toInt) ∧ x.cell? ⟨p, o + k * 5 + 3, none⟩ = some (.int .i64 q.p.b) ∧ x.cell? ⟨w.heap.size, 1, none⟩ = some (.slice (some ⟨p, o, none⟩) nb cb) ∧ x.cell? ⟨w.heap.size + 1, 0, none⟩ = some (.bool pt.s) ∧ x.cell? ⟨w.heap.size + 1, 1, none⟩ = some (.int .i64 pt.H.toInt) ∧ x.cell? ⟨w.heap.size + 1, 2, none⟩ = some (.int .i64 pt.L.toInt) ∧ x.cell? ⟨w.heap.size + 1, 3, none⟩ = some (.int .i64 pt.b) ∧ Below wr.heap.size wr x)) (by kernel_rfl) ?_ (fun hHeld => ?_)
        · try dsimp only
          exact HSx.out _ ((Below.refl _ _).drew)
        refine wpAnyH_take (i := 0) (oi := ⟨some 15, _, _, _, _, _⟩) (v := ?_) rfl (by kernel_rfl) (by kernel_rfl) (by kernel_rfl) (fun _ _ _ h => h) (Or.inl ⟨by rfl, ?_⟩) (by assumption) ?_
        rotate_left
        · intro w hSw
          try dsimp only at hSw
          go_simp
          try with_reducible rfl
        simp only [Act.put, List.setIfInBounds_toArray, List.set_cons_zero, List.set_cons_succ]
        refine wpAnyH_take (i := 1) (oi := ⟨some 16, _, _, _, _, _⟩) (v := ?_) rfl (by kernel_rfl) (by kernel_rfl) (by kernel_rfl) (fun _ _ _ h => h) (Or.inl ⟨by rfl, ?_⟩) (by assumption) ?_
        rotate_left
        · intro w hSw
          try dsimp only at hSw
          go_simp
          try with_reducible rfl
        simp only [Act.put, List.setIfInBounds_toArray, List.set_cons_zero, List.set_cons_succ]
        refine wpAnyH_take (i := 2) (oi := ⟨some 17, _, _, _, _, _⟩) (v := ?_) rfl (by kernel_rfl) (by kernel_rfl) (by kernel_rfl) (fun _ _ _ h => h) (Or.inl ⟨by rfl, ?_⟩) (by assumption) ?_
        rotate_left
        · intro w hSw
          try dsimp only at hSw
          go_simp
          try with_reducible rfl
        simp only [Act.put, List.setIfInBounds_toArray, List.set_cons_zero, List.set_cons_succ]
        refine wpAnyH_take (i := 3) (oi := ⟨some 18, _, _, _, _, _⟩) (v := ?_) rfl (by kernel_rfl) (by kernel_rfl) (by kernel_rfl) (fun _ _ _ h => h) (Or.inl ⟨by rfl, ?_⟩) (by assumption) ?_
        rotate_left
        · intro w hSw
          try dsimp only at hSw
          go_simp
          try with_reducible rfl
        simp only [Act.put, List.setIfInBounds_toArray, List.set_cons_zero, List.set_cons_succ]
        refine wpAnyH_take (i := 4) (oi := ⟨some 19, _, _, _, _, _⟩) (v := ?_) rfl (by kernel_rfl) (by kernel_rfl) (by kernel_rfl) (fun _ _ _ h => h) (Or.inl ⟨by rfl, ?_⟩) (by assumption) ?_
        rotate_left
        · intro w hSw
          try dsimp only at hSw
          go_simp
          try with_reducible rfl
        simp only [Act.put, List.setIfInBounds_toArray, List.set_cons_zero, List.set_cons_succ]
        refine wpAnyH_take (i := 5) (oi := ⟨some 20, _, _, _, _, _⟩) (v := ?_) rfl (by kernel_rfl) (by kernel_rfl) (by kernel_rfl) (fun _ _ _ h => h) (Or.inl ⟨by rfl, ?_⟩) (by assumption) ?_
        rotate_left
        · intro w hSw
          try dsimp only at hSw
          go_simp
          try with_reducible rfl
        simp only [Act.put, List.setIfInBounds_toArray, List.set_cons_zero, List.set_cons_succ]
        refine wpAnyH_take (i := 6) (oi := ⟨some 21, _, _, _, _, _⟩) (v := ?_) rfl (by kernel_rfl) (by kernel_rfl) (by kernel_rfl) (fun _ _ _ h => h) (Or.inl ⟨by rfl, ?_⟩) (by assumption) ?_
        rotate_left
        · intro w hSw
          try dsimp only at hSw
          go_simp
          try with_reducible rfl
        simp only [Act.put, List.setIfInBounds_toArray, List.set_cons_zero, List.set_cons_succ]
        refine wpAnyH_ready (rs := [7]) (by kernel_rfl) (by simp) ?_
        refine AllReadyH.cons rfl (fun K hK => ?_) AllReadyH.nil
        go_simp
        go_wp2_with (first | (go_at_call 72; refine (HWi.out _).mono ?_; rintro e w4 ⟨rfl, hb4⟩; have b4 := (hHeld.2.2.2.2.2.2.2.2.2).trans (hb4.mono (hHeld.2.2.2.2.2.2.2.2.2).size)))
        refine hK.out _ _ ?_ (fun hHeld => ?_)
        · try dsimp only
          exact HSx.out _ b4
        clear hK K
        have HE := hidP (hHeld.2.2.2.2.2.2.2.2.2)
        refine wpAnyH_done (by kernel_rfl) ?_ _
        clear hHeld
        have HB4 := hidP (HBel.out.trans (HE.out.mono HBel.out.size))
        have HO4 := hidP (HO.out.later HE.out)
        have hW4 : W2.heap.size ≤ w4.heap.size := Nat.le_trans hWr HE.out.size
        go_wp2_with fail
        go_roundw
        case rel => exact ⟨k + 1, m, ad, c, by omega, by go_num, rfl, by rw [HSn.out]; simpa using HM.out, by rw [HSn.out]; simpa using HO4.out, HB4.out⟩
        case measure => simp [intOf]; omega
      · rw [hw] at HWi HSn
        rw [if_pos rfl] at HSn
        go_wp2_with fail
        have HSx : Hid (∀ x, Below wr.heap.size wr x → (x.cell? ⟨p, o + k * 5, none⟩ = some (.bool q.p.s) ∧ x.cell? ⟨p, o + k * 5 + 1, none⟩ = some (.int .i64 q.p.H.toInt) ∧ x.cell? ⟨p, o + k * 5 + 2, none⟩ = some (.int .i64 q.p.L.toInt) ∧ x.cell? ⟨p, o + k * 5 + 3, none⟩ = some (.int .i64 q.p.b) ∧ x.cell? ⟨w.heap.size, 1, none⟩ = some (.slice (some ⟨p, o, none⟩) nb cb) ∧ x.cell? ⟨w.heap.size + 1, 0, none⟩ = some (.bool pt.s) ∧ x.cell? ⟨w.heap.size + 1, 1, none⟩ = some (.int .i64 pt.H.toInt) ∧ x.cell? ⟨w.heap.size + 1, 2, none⟩ = some (.int .i64 pt.L.toInt) ∧ x.cell? ⟨w.heap.size + 1, 3, none⟩ = some (.int .i64 pt.b) ∧ Below wr.heap.size wr x)) := hidP fun x h =>
          ⟨(h.cell dL).trans d0, (h.cell dL).trans d1, (h.cell dL).trans d2, (h.cell dL).trans d3, (h.cell vL).trans v1, (h.cell rL).trans r0, (h.cell rL).trans r1, (h.cell rL).trans r2, (h.cell rL).trans r3, h⟩
        refine wp_region_held_drew (S := (fun x => x.cell? ⟨p, o + k * 5, none⟩ = some (.bool q.p.s) ∧ x.cell? ⟨p, o + k * 5 + 1, none⟩ = some (.int .i64 q.p.H.toInt) ∧ x.cell? ⟨p, o + k * 5 + 2, none⟩ = some (.int .i64 q.p.L.toInt) ∧ x.cell? ⟨p, o + k * 5 + 3, none⟩ = some (.int .i64 q.p.b) ∧ x.cell? ⟨w.heap.size, 1, none⟩ = some (.slice (some ⟨p, o, none⟩) nb cb) ∧ x.cell? ⟨w.heap.size + 1, 0, none⟩ = some (.bool pt.s) ∧ x.cell? ⟨w.heap.size + 1, 1, none⟩ = some (.int .i64 pt.H.toInt) ∧ x.cell? ⟨w.heap.size + 1, 2, none⟩ = some (.int .i64 pt.L.toInt) ∧ x.cell? ⟨w.heap.size + 1, 3, none⟩ = some (.int .i64 pt.b) ∧ Below wr.heap.size wr x)) (by kernel_rfl) ?_ (fun hHeld => ?_)
        · try dsimp only
          exact HSx.out _ ((Below.refl _ _).drew)
        refine wpAnyH_take (i := 0) (oi := ⟨some 15, _, _, _, _, _⟩) (v := ?_) rfl (by kernel_rfl) (by kernel_rfl) (by kernel_rfl) (fun _ _ _ h => h) (Or.inl ⟨by rfl, ?_⟩) (by assumption) ?_
        rotate_left
        · intro w hSw
          try dsimp only at hSw
          go_simp
          try with_reducible rfl
        simp only [Act.put, List.setIfInBounds_toArray, List.set_cons_zero, List.set_cons_succ]
        refine wpAnyH_take (i := 1) (oi := ⟨some 16, _, _, _, _, _⟩) (v := ?_) rfl (by kernel_rfl) (by kernel_rfl) (by kernel_rfl) (fun _ _ _ h => h) (Or.inl ⟨by rfl, ?_⟩) (by assumption) ?_
        rotate_left
        · intro w hSw
          try dsimp only at hSw
          go_simp
          try with_reducible rfl
        simp only [Act.put, List.setIfInBounds_toArray, List.set_cons_zero, List.set_cons_succ]
        refine wpAnyH_take (i := 2) (oi := ⟨some 17, _, _, _, _, _⟩) (v := ?_) rfl (by kernel_rfl) (by kernel_rfl) (by kernel_rfl) (fun _ _ _ h => h) (Or.inl ⟨by rfl, ?_⟩) (by assumption) ?_
        rotate_left
        · intro w hSw
          try dsimp only at hSw
          go_simp
          try with_reducible rfl
        simp only [Act.put, List.setIfInBounds_toArray, List.set_cons_zero, List.set_cons_succ]
        refine wpAnyH_take (i := 3) (oi := ⟨some 18, _, _, _, _, _⟩) (v := ?_) rfl (by kernel_rfl) (by kernel_rfl) (by kernel_rfl) (fun _ _ _ h => h) (Or.inl ⟨by rfl, ?_⟩) (by assumption) ?_
        rotate_left
        · intro w hSw
          try dsimp only at hSw
          go_simp
          try with_reducible rfl
        simp only [Act.put, List.setIfInBounds_toArray, List.set_cons_zero, List.set_cons_succ]
        refine wpAnyH_take (i := 4) (oi := ⟨some 19, _, _, _, _, _⟩) (v := ?_) rfl (by kernel_rfl) (by kernel_rfl) (by kernel_rfl) (fun _ _ _ h => h) (Or.inl ⟨by rfl, ?_⟩) (by assumption) ?_
        rotate_left
        · intro w hSw
          try dsimp only at hSw
          go_simp
          try with_reducible rfl
        simp only [Act.put, List.setIfInBounds_toArray, List.set_cons_zero, List.set_cons_succ]
        refine wpAnyH_take (i := 5) (oi := ⟨some 20, _, _, _, _, _⟩) (v := ?_) rfl (by kernel_rfl) (by kernel_rfl) (by kernel_rfl) (fun _ _ _ h => h) (Or.inl ⟨by rfl, ?_⟩) (by assumption) ?_
        rotate_left
        · intro w hSw
          try dsimp only at hSw
          go_simp
          try with_reducible rfl
        simp only [Act.put, List.setIfInBounds_toArray, List.set_cons_zero, List.set_cons_succ]
        refine wpAnyH_take (i := 6) (oi := ⟨some 21, _, _, _, _, _⟩) (v := ?_) rfl (by kernel_rfl) (by kernel_rfl) (by kernel_rfl) (fun _ _ _ h => h) (Or.inl ⟨by rfl, ?_⟩) (by assumption) ?_
        rotate_left
        · intro w hSw
          try dsimp only at hSw
          go_simp
          try with_reducible rfl
        simp only [Act.put, List.setIfInBounds_toArray, List.set_cons_zero, List.set_cons_succ]
        refine wpAnyH_ready (rs := [7]) (by kernel_rfl) (by simp) ?_
        refine AllReadyH.cons rfl (fun K hK => ?_) AllReadyH.nil
        go_simp
        go_wp2_with (first | (go_at_call 72; refine (HWi.out _).mono ?_; rintro e w4 ⟨rfl, hb4⟩; have b4 := (hHeld.2.2.2.2.2.2.2.2.2).trans (hb4.mono (hHeld.2.2.2.2.2.2.2.2.2).size)))
        refine hK.out _ _ ?_ (fun hHeld => ?_)
        · try dsimp only
          exact HSx.out _ b4
        clear hK K
        have HE := hidP (hHeld.2.2.2.2.2.2.2.2.2)
        refine wpAnyH_done (by kernel_rfl) ?_ _
        clear hHeld
        have HB4 := hidP (HBel.out.trans (HE.out.mono HBel.out.size))
        have HO4 := hidP (HO.out.later HE.out)
        have hW4 : W2.heap.size ≤ w4.heap.size := Nat.le_trans hWr HE.out.size
        have e0 := (HE.out.cell dL).trans d0
        have e1 := (HE.out.cell dL).trans d1
        have e2 := (HE.out.cell dL).trans d2
        have e3 := (HE.out.cell dL).trans d3
        have n1 := (HE.out.cell vL).trans v1
        clear d0 d1 d2 d3 v1
        go_wp2_with (at_builtin; refine wpList_appR Try.fourP _ rfl (.tmp 23) (.tmp 30) 86 rfl W2.heap.size ad m c 1 (fil (bs.take k) pt) [q.p] (.slice (some ⟨w4.heap.size, 0, none⟩) 1 1) rfl HM.out rfl (HO4.out.alloc _) rfl (src_row Try.fourP 1 1 rfl (row_one w4 46 q.p) (by simp)) (by omega) (by simp; omega) ?_; intro a6 c6 w5 ho5 hg5 ht5)
        go_roundw
        case rel => exact ⟨k + 1, m + 1, a6, c6, by omega, by go_num, rfl, by rw [HSn.out, List.length_append, ← HM.out]; rfl, by rw [HSn.out]; exact ho5, below_appR (HB4.out.alloc hW4 _) (HO4.out.alloc _) (by simp; omega) hg5⟩
        case measure => simp [intOf]; omega
    · have eT : bs.take k = bs := List.take_of_length_le (by have := HN.out; omega)
      rw [eT] at HM HO
      clear eT hown hm hbel
      have HF := hidP (And.intro HM.out (And.intro (HO.out.mono HUB.out.size) (HUB.out.trans (HBel.out.mono HUB.out.size))))
      go_wp2_with fail
      go_ret
      refine ⟨ad, c, ?_, ?_, HF.out.2.2⟩
      · rw [← HF.out.1]; rfl
      · rw [← HF.out.1]; exact HF.out.2.1

end Go.Proofs.Ythbpehpnikknlaa

namespace Go.Proofs.Ythbpehpnikknlaa
open Go.RowKit

theorem frz4 (w : World) (t : TypeId) (p : Pf) (o : Nat) : (w.alloc (.cells #[.bool p.s, .int .i64 p.H.toInt, .int .i64 p.L.toInt, .int .i64 p.b] t)).frozen? ⟨w.heap.size, o, none⟩ = false := by simp [go_sem]
theorem OwnG.set2 {α : Type} {K : Kd α} {t : TypeId} {w : World} {B x : Nat} {v u u' : Value} {ps : List α} (h : OwnG K t w B v ps) (hx : x < B) : OwnG K t ((w.setCell ⟨x, 0, none⟩ u).setCell ⟨x, 1, none⟩ u') B v ps := by
  have o1 := OwnG.grown h (grown_cellG w x 0 u) (fun k hk e => by have := (OwnG.lt h k hk).1; simp at e; omega)
  exact OwnG.grown o1 (grown_cellG _ x 1 u') (fun k hk e => by have := (OwnG.lt h k hk).1; simp at e; omega)
theorem OwnG.set1 {α : Type} {K : Kd α} {t : TypeId} {w : World} {B x : Nat} {v u : Value} {ps : List α} (h : OwnG K t w B v ps) (hx : x < B) : OwnG K t (w.setCell ⟨x, 0, none⟩ u) B v ps :=
  OwnG.grown h (grown_cellG w x 0 u) (fun k hk e => by have := (OwnG.lt h k hk).1; simp at e; omega)
theorem below_set2 {w0 w : World} {B0 x : Nat} {u u' : Value} (h : Below B0 w0 w) (hx : B0 ≤ x) : Below B0 w0 ((w.setCell ⟨x, 0, none⟩ u).setCell ⟨x, 1, none⟩ u') := (h.setCell hx _).setCell hx _
theorem below_set1 {w0 w : World} {B0 x : Nat} {u : Value} (h : Below B0 w0 w) (hx : B0 ≤ x) : Below B0 w0 (w.setCell ⟨x, 0, none⟩ u) := h.setCell hx _
theorem cell_set2 {w : World} {x b o : Nat} {u u' v : Value} (h : w.cell? ⟨b, o, none⟩ = some v) (hb : b ≠ x) : ((w.setCell ⟨x, 0, none⟩ u).setCell ⟨x, 1, none⟩ u').cell? ⟨b, o, none⟩ = some v := by
  rw [World.cell?_of_block (heap_setCell_other _ ⟨x, 1, none⟩ b _ (by simpa using hb)), World.cell?_of_block (heap_setCell_other _ ⟨x, 0, none⟩ b _ (by simpa using hb))]; exact h
theorem cell_set1 {w : World} {x b o : Nat} {u v : Value} (h : w.cell? ⟨b, o, none⟩ = some v) (hb : b ≠ x) : (w.setCell ⟨x, 0, none⟩ u).cell? ⟨b, o, none⟩ = some v := by
  rw [World.cell?_of_block (heap_setCell_other _ ⟨x, 0, none⟩ b _ (by simpa using hb))]; exact h
theorem frz_set2 {w : World} {x b o : Nat} {u u' : Value} (h : w.frozen? ⟨b, o, none⟩ = false) (hb : b ≠ x) : ((w.setCell ⟨x, 0, none⟩ u).setCell ⟨x, 1, none⟩ u').frozen? ⟨b, o, none⟩ = false := by
  rw [World.frozen?_of_block (heap_setCell_other _ ⟨x, 1, none⟩ b _ (by simpa using hb)), World.frozen?_of_block (heap_setCell_other _ ⟨x, 0, none⟩ b _ (by simpa using hb))]; exact h
theorem frz_set1 {w : World} {x b o : Nat} {u : Value} (h : w.frozen? ⟨b, o, none⟩ = false) (hb : b ≠ x) : (w.setCell ⟨x, 0, none⟩ u).frozen? ⟨b, o, none⟩ = false := by
  rw [World.frozen?_of_block (heap_setCell_other _ ⟨x, 0, none⟩ b _ (by simpa using hb))]; exact h
theorem Sgrown {α : Type} {K : Kd α} {t : TypeId} {w : World} {B : Nat} {v : Value} {ps : List α} (h : OwnG K t w B v ps) : ∀ k, v.ownBlock = some k → B ≤ k := fun k hk => (OwnG.lt h k hk).1

set_option maxRecDepth 10000 in
set_option maxHeartbeats 4000000 in
theorem iDrop_a (pt : Pf) (g h : Nat) (np nb : Nat) (ps : List Pl) (bs : List Bk) (w : World) (hnp : np = ps.length) (hnb : nb = bs.length) (hP : RowG KPl w (some ⟨g, 0, none⟩) ps) (hK : RowG KBk w (some ⟨h, 0, none⟩) bs) (hl : np ≤ 1048576) (hl' : nb ≤ 1048576) (hst : ∀ q ∈ bs, q.t.size ≤ 9223372036854775807) (hr : planB ps bs = false) :
    Calls Try.prog 23 #[.agg #[.slice (some ⟨g, 0, none⟩) np np, .slice (some ⟨h, 0, none⟩) nb nb], .agg #[.bool pt.s, .int .i64 pt.H.toInt, .int .i64 pt.L.toInt, .int .i64 pt.b]] w fun e w' => ∃ a c b d, e = .returned (.tuple #[.agg #[.slice a np c, .slice b nb d], .int .i64 (1)]) ∧ OwnG KPl 48 w' w.heap.size (.slice a np c) (ps) ∧ OwnG KBk 56 w' w.heap.size (.slice b nb d) (bs) ∧ (∀ k, (Value.slice a np c).ownBlock = some k → (Value.slice b nb d).ownBlock ≠ some k) ∧ Below w.heap.size w w' := by
  have HOw := hidP (fun W h' => ownPlan_any (some ⟨g, 0, none⟩) np np (some ⟨h, 0, none⟩) nb nb ps bs W hnp hnb (hP.later h') (hK.later h') hl hl')
  have HPO := hidP (fun W a c b d e1 e2 => iPlanOk_any a np c b nb d ps bs W hnp hnb e1 e2 (by omega) (by omega) hst)
  have HPk := hidP (iPrefixOk_any pt.s pt.H pt.L pt.b)
  change Hid (∀ w, Calls Try.prog 62 _ w fun e w' => e = .returned (.bool pt.pk) ∧ Below w.heap.size w w') at HPk
  have HPl := hidP (fun W a c b d e1 => placeOfPool_any pt a np c b nb d ps W hnp e1 (by omega))
  have HBI := hidP (fun W a c b d e2 => blocksIn_any pt a np c b nb d bs W hnb e2 hl')
  have HN := hidP (And.intro hnp hnb)
  clear hP hK hnp hnb hst
  rw [hr] at HPO
  go_enter Try.func23, Try.ntmps23
  go_wp2_with fail
  have uF := frz2 w 32 (.slice (some ⟨g, 0, none⟩) np np) (.slice (some ⟨h, 0, none⟩) nb nb)
  obtain ⟨u0, u1⟩ := box2 (u := .slice (some ⟨g, 0, none⟩) np np) (v := .slice (some ⟨h, 0, none⟩) nb nb) w 32
  have uB := alloc_below w (.cells #[.slice (some ⟨g, 0, none⟩) np np, .slice (some ⟨h, 0, none⟩) nb nb] 32)
  have uL := alloc_lt w (.cells #[.slice (some ⟨g, 0, none⟩) np np, .slice (some ⟨h, 0, none⟩) nb nb] 32)
  have uS : (w.alloc (.cells #[.slice (some ⟨g, 0, none⟩) np np, .slice (some ⟨h, 0, none⟩) nb nb] 32)).heap.size = w.heap.size + 1 := by simp
  generalize w.alloc (.cells #[.slice (some ⟨g, 0, none⟩) np np, .slice (some ⟨h, 0, none⟩) nb nb] 32) = W1 at *
  obtain ⟨y0, y1, y2, y3⟩ := box4 (p := pt) W1 46
  have yB := alloc_below W1 (.cells #[.bool pt.s, .int .i64 pt.H.toInt, .int .i64 pt.L.toInt, .int .i64 pt.b] 46)
  have yL := alloc_lt W1 (.cells #[.bool pt.s, .int .i64 pt.H.toInt, .int .i64 pt.L.toInt, .int .i64 pt.b] 46)
  have yS : (W1.alloc (.cells #[.bool pt.s, .int .i64 pt.H.toInt, .int .i64 pt.L.toInt, .int .i64 pt.b] 46)).heap.size = W1.heap.size + 1 := by simp
  generalize W1.alloc (.cells #[.bool pt.s, .int .i64 pt.H.toInt, .int .i64 pt.L.toInt, .int .i64 pt.b] 46) = W2 at *
  rw [uS] at y0 y1 y2 y3 yL yS
  have kF := frz2 W2 32 (.slice none 0 0) (.slice none 0 0)
  obtain ⟨k0, k1⟩ := box2 (u := .slice none 0 0) (v := .slice none 0 0) W2 32
  have kB := alloc_below W2 (.cells #[.slice none 0 0, .slice none 0 0] 32)
  have kL := alloc_lt W2 (.cells #[.slice none 0 0, .slice none 0 0] 32)
  have kS : (W2.alloc (.cells #[.slice none 0 0, .slice none 0 0] 32)).heap.size = W2.heap.size + 1 := by simp
  generalize W2.alloc (.cells #[.slice none 0 0, .slice none 0 0] 32) = W3 at *
  rw [yS] at k0 k1 kL kS
  rw [yS] at kF
  have l0 : w.heap.size < W2.heap.size := by omega
  have l1 : w.heap.size + 1 < W2.heap.size := by omega
  have U0 := (kB.cell l0).trans ((yB.cell uL).trans u0)
  have U1 := (kB.cell l0).trans ((yB.cell uL).trans u1)
  have UF : ∀ o, W3.frozen? ⟨w.heap.size, o, none⟩ = false := fun o => (kB.frozen l0).trans ((yB.frozen uL).trans (uF o))
  have Y0 := (kB.cell l1).trans y0
  have Y1 := (kB.cell l1).trans y1
  have Y2 := (kB.cell l1).trans y2
  have Y3 := (kB.cell l1).trans y3
  have acc0 := hidP ((uB.trans (yB.mono uB.size)).trans (kB.mono (Nat.le_trans uB.size yB.size)))
  have UL : w.heap.size < W3.heap.size := by omega
  have YL : w.heap.size + 1 < W3.heap.size := by omega
  have kL3 : w.heap.size + 1 + 1 < W3.heap.size := by omega
  have UL9 := UL
  have kL9 := kL3
  clear uB yB kB uS yS kS u0 u1 y0 y1 y2 y3 uL yL kL uF l0 l1
  refine (HOw.out _ acc0.out).mono ?_
  rintro e w4 ⟨a, c, b, d, rfl, op, ob, hne, hb4⟩
  have pb0_w4 := (hb4.cell UL).trans U0
  have pb1_w4 := (hb4.cell UL).trans U1
  have pbF_w4 : ∀ o, w4.frozen? ⟨w.heap.size, o, none⟩ = false := fun o => (hb4.frozen UL).trans (UF o)
  have pbL_w4 : w.heap.size < w4.heap.size := Nat.lt_of_lt_of_le UL hb4.size
  have at0_w4 := (hb4.cell YL).trans Y0
  have at1_w4 := (hb4.cell YL).trans Y1
  have at2_w4 := (hb4.cell YL).trans Y2
  have at3_w4 := (hb4.cell YL).trans Y3
  have atL_w4 : w.heap.size + 1 < w4.heap.size := Nat.lt_of_lt_of_le YL hb4.size
  have rs0_w4 := (hb4.cell kL3).trans k0
  have rs1_w4 := (hb4.cell kL3).trans k1
  have rsF_w4 : ∀ o, w4.frozen? ⟨w.heap.size + 1 + 1, o, none⟩ = false := fun o => (hb4.frozen kL3).trans (kF o)
  have rsL_w4 : w.heap.size + 1 + 1 < w4.heap.size := Nat.lt_of_lt_of_le kL3 hb4.size
  have acc_w4 := hidP (acc0.out.trans (hb4.mono acc0.out.size))
  have oP_w4 := hidP op
  have oB_w4 := hidP ob
  have HNE := hidP hne
  clear UF U0 U1 UL Y0 Y1 Y2 Y3 YL kF k0 k1 kL3 acc0 hb4 op ob hne
  go_wp2_with fail
  have p0 : ((w4.setCell ⟨w.heap.size, 0, none⟩ (.slice a np c)).setCell ⟨w.heap.size, 1, none⟩ (.slice b nb d)).cell? ⟨w.heap.size, 0, none⟩ = some (.slice a np c) := by simp [go_sem, pb0_w4]
  have p1 : ((w4.setCell ⟨w.heap.size, 0, none⟩ (.slice a np c)).setCell ⟨w.heap.size, 1, none⟩ (.slice b nb d)).cell? ⟨w.heap.size, 1, none⟩ = some (.slice b nb d) := by simp [go_sem, pb1_w4]
  have pF : ∀ o, ((w4.setCell ⟨w.heap.size, 0, none⟩ (.slice a np c)).setCell ⟨w.heap.size, 1, none⟩ (.slice b nb d)).frozen? ⟨w.heap.size, o, none⟩ = false := fun o => by simp [go_sem, pbF_w4 o]
  have q0 : ((w4.setCell ⟨w.heap.size, 0, none⟩ (.slice a np c)).setCell ⟨w.heap.size, 1, none⟩ (.slice b nb d)).cell? ⟨w.heap.size + 1, 0, none⟩ = _ := cell_set2 at0_w4 (by omega)
  have q1 : ((w4.setCell ⟨w.heap.size, 0, none⟩ (.slice a np c)).setCell ⟨w.heap.size, 1, none⟩ (.slice b nb d)).cell? ⟨w.heap.size + 1, 1, none⟩ = _ := cell_set2 at1_w4 (by omega)
  have q2 : ((w4.setCell ⟨w.heap.size, 0, none⟩ (.slice a np c)).setCell ⟨w.heap.size, 1, none⟩ (.slice b nb d)).cell? ⟨w.heap.size + 1, 2, none⟩ = _ := cell_set2 at2_w4 (by omega)
  have q3 : ((w4.setCell ⟨w.heap.size, 0, none⟩ (.slice a np c)).setCell ⟨w.heap.size, 1, none⟩ (.slice b nb d)).cell? ⟨w.heap.size + 1, 3, none⟩ = _ := cell_set2 at3_w4 (by omega)
  have r0 : ((w4.setCell ⟨w.heap.size, 0, none⟩ (.slice a np c)).setCell ⟨w.heap.size, 1, none⟩ (.slice b nb d)).cell? ⟨w.heap.size + 1 + 1, 0, none⟩ = _ := cell_set2 rs0_w4 (by omega)
  have r1 : ((w4.setCell ⟨w.heap.size, 0, none⟩ (.slice a np c)).setCell ⟨w.heap.size, 1, none⟩ (.slice b nb d)).cell? ⟨w.heap.size + 1 + 1, 1, none⟩ = _ := cell_set2 rs1_w4 (by omega)
  have rF : ∀ o, ((w4.setCell ⟨w.heap.size, 0, none⟩ (.slice a np c)).setCell ⟨w.heap.size, 1, none⟩ (.slice b nb d)).frozen? ⟨w.heap.size + 1 + 1, o, none⟩ = false := fun o => frz_set2 (rsF_w4 o) (by omega)
  have oP5 : Hid (OwnG KPl 48 ((w4.setCell ⟨w.heap.size, 0, none⟩ (.slice a np c)).setCell ⟨w.heap.size, 1, none⟩ (.slice b nb d)) W3.heap.size (.slice a np c) ps) := hidP (OwnG.set2 oP_w4.out UL9)
  have oB5 : Hid (OwnG KBk 56 ((w4.setCell ⟨w.heap.size, 0, none⟩ (.slice a np c)).setCell ⟨w.heap.size, 1, none⟩ (.slice b nb d)) W3.heap.size (.slice b nb d) bs) := hidP (OwnG.set2 oB_w4.out UL9)
  have acc5 : Hid (Below w.heap.size w ((w4.setCell ⟨w.heap.size, 0, none⟩ (.slice a np c)).setCell ⟨w.heap.size, 1, none⟩ (.slice b nb d))) := hidP (below_set2 acc_w4.out (Nat.le_refl _))
  have sL5 : ((w4.setCell ⟨w.heap.size, 0, none⟩ (.slice a np c)).setCell ⟨w.heap.size, 1, none⟩ (.slice b nb d)).heap.size = w4.heap.size := by simp
  generalize ((w4.setCell ⟨w.heap.size, 0, none⟩ (.slice a np c)).setCell ⟨w.heap.size, 1, none⟩ (.slice b nb d)) = W5 at *
  have pL5 : w.heap.size < W5.heap.size := by have := pbL_w4; omega
  have qL5 : w.heap.size + 1 < W5.heap.size := by have := atL_w4; omega
  have rL5 : w.heap.size + 1 + 1 < W5.heap.size := by have := rsL_w4; omega
  clear pb0_w4 pb1_w4 pbL_w4 at0_w4 at1_w4 at2_w4 at3_w4 atL_w4 rs0_w4 rs1_w4 rsL_w4 pbF_w4 rsF_w4 oP_w4 oB_w4 acc_w4 sL5
  refine (HPO.out _ a c b d oP5.out.row oB5.out.row).mono ?_
  rintro e w6 ⟨rfl, hb6⟩
  have pb0_w6 := (hb6.cell pL5).trans p0
  have pb1_w6 := (hb6.cell pL5).trans p1
  have pbF_w6 : ∀ o, w6.frozen? ⟨w.heap.size, o, none⟩ = false := fun o => (hb6.frozen pL5).trans (pF o)
  have pbL_w6 : w.heap.size < w6.heap.size := Nat.lt_of_lt_of_le pL5 hb6.size
  have at0_w6 := (hb6.cell qL5).trans q0
  have at1_w6 := (hb6.cell qL5).trans q1
  have at2_w6 := (hb6.cell qL5).trans q2
  have at3_w6 := (hb6.cell qL5).trans q3
  have atL_w6 : w.heap.size + 1 < w6.heap.size := Nat.lt_of_lt_of_le qL5 hb6.size
  have rs0_w6 := (hb6.cell rL5).trans r0
  have rs1_w6 := (hb6.cell rL5).trans r1
  have rsF_w6 : ∀ o, w6.frozen? ⟨w.heap.size + 1 + 1, o, none⟩ = false := fun o => (hb6.frozen rL5).trans (rF o)
  have rsL_w6 : w.heap.size + 1 + 1 < w6.heap.size := Nat.lt_of_lt_of_le rL5 hb6.size
  have oP_w6 := hidP (OwnG.later oP5.out hb6)
  have oB_w6 := hidP (OwnG.later oB5.out hb6)
  have acc_w6 := hidP (acc5.out.trans (hb6.mono acc5.out.size))
  clear pF p0 p1 pL5 q0 q1 q2 q3 qL5 rF r0 r1 rL5 oP5 oB5 acc5 hb6
  go_wp2_with fail
  refine bodyPost_ret (v := .tuple #[.agg #[.slice a np c, .slice b nb d], .int .i64 1]) (by simp [results, Try.results23, go_sem, rs0_w6, rs1_w6]) rfl ⟨_, _, _, _, rfl, (OwnG.set2 oP_w6.out kL9).mono (Nat.le_of_lt UL9), (OwnG.set2 oB_w6.out kL9).mono (Nat.le_of_lt UL9), HNE.out, below_set2 acc_w6.out (by omega)⟩

set_option maxRecDepth 10000 in
set_option maxHeartbeats 4000000 in
theorem iDrop_b (pt : Pf) (g h : Nat) (np nb : Nat) (ps : List Pl) (bs : List Bk) (w : World) (hnp : np = ps.length) (hnb : nb = bs.length) (hP : RowG KPl w (some ⟨g, 0, none⟩) ps) (hK : RowG KBk w (some ⟨h, 0, none⟩) bs) (hl : np ≤ 1048576) (hl' : nb ≤ 1048576) (hst : ∀ q ∈ bs, q.t.size ≤ 9223372036854775807) (hr : planB ps bs = true) (hk : pt.pk = false) :
    Calls Try.prog 23 #[.agg #[.slice (some ⟨g, 0, none⟩) np np, .slice (some ⟨h, 0, none⟩) nb nb], .agg #[.bool pt.s, .int .i64 pt.H.toInt, .int .i64 pt.L.toInt, .int .i64 pt.b]] w fun e w' => ∃ a c b d, e = .returned (.tuple #[.agg #[.slice a np c, .slice b nb d], .int .i64 (1)]) ∧ OwnG KPl 48 w' w.heap.size (.slice a np c) (ps) ∧ OwnG KBk 56 w' w.heap.size (.slice b nb d) (bs) ∧ (∀ k, (Value.slice a np c).ownBlock = some k → (Value.slice b nb d).ownBlock ≠ some k) ∧ Below w.heap.size w w' := by
  have HOw := hidP (fun W h' => ownPlan_any (some ⟨g, 0, none⟩) np np (some ⟨h, 0, none⟩) nb nb ps bs W hnp hnb (hP.later h') (hK.later h') hl hl')
  have HPO := hidP (fun W a c b d e1 e2 => iPlanOk_any a np c b nb d ps bs W hnp hnb e1 e2 (by omega) (by omega) hst)
  have HPk := hidP (iPrefixOk_any pt.s pt.H pt.L pt.b)
  change Hid (∀ w, Calls Try.prog 62 _ w fun e w' => e = .returned (.bool pt.pk) ∧ Below w.heap.size w w') at HPk
  have HPl := hidP (fun W a c b d e1 => placeOfPool_any pt a np c b nb d ps W hnp e1 (by omega))
  have HBI := hidP (fun W a c b d e2 => blocksIn_any pt a np c b nb d bs W hnb e2 hl')
  have HN := hidP (And.intro hnp hnb)
  clear hP hK hnp hnb hst
  rw [hr] at HPO
  rw [hk] at HPk
  go_enter Try.func23, Try.ntmps23
  go_wp2_with fail
  have uF := frz2 w 32 (.slice (some ⟨g, 0, none⟩) np np) (.slice (some ⟨h, 0, none⟩) nb nb)
  obtain ⟨u0, u1⟩ := box2 (u := .slice (some ⟨g, 0, none⟩) np np) (v := .slice (some ⟨h, 0, none⟩) nb nb) w 32
  have uB := alloc_below w (.cells #[.slice (some ⟨g, 0, none⟩) np np, .slice (some ⟨h, 0, none⟩) nb nb] 32)
  have uL := alloc_lt w (.cells #[.slice (some ⟨g, 0, none⟩) np np, .slice (some ⟨h, 0, none⟩) nb nb] 32)
  have uS : (w.alloc (.cells #[.slice (some ⟨g, 0, none⟩) np np, .slice (some ⟨h, 0, none⟩) nb nb] 32)).heap.size = w.heap.size + 1 := by simp
  generalize w.alloc (.cells #[.slice (some ⟨g, 0, none⟩) np np, .slice (some ⟨h, 0, none⟩) nb nb] 32) = W1 at *
  obtain ⟨y0, y1, y2, y3⟩ := box4 (p := pt) W1 46
  have yB := alloc_below W1 (.cells #[.bool pt.s, .int .i64 pt.H.toInt, .int .i64 pt.L.toInt, .int .i64 pt.b] 46)
  have yL := alloc_lt W1 (.cells #[.bool pt.s, .int .i64 pt.H.toInt, .int .i64 pt.L.toInt, .int .i64 pt.b] 46)
  have yS : (W1.alloc (.cells #[.bool pt.s, .int .i64 pt.H.toInt, .int .i64 pt.L.toInt, .int .i64 pt.b] 46)).heap.size = W1.heap.size + 1 := by simp
  generalize W1.alloc (.cells #[.bool pt.s, .int .i64 pt.H.toInt, .int .i64 pt.L.toInt, .int .i64 pt.b] 46) = W2 at *
  rw [uS] at y0 y1 y2 y3 yL yS
  have kF := frz2 W2 32 (.slice none 0 0) (.slice none 0 0)
  obtain ⟨k0, k1⟩ := box2 (u := .slice none 0 0) (v := .slice none 0 0) W2 32
  have kB := alloc_below W2 (.cells #[.slice none 0 0, .slice none 0 0] 32)
  have kL := alloc_lt W2 (.cells #[.slice none 0 0, .slice none 0 0] 32)
  have kS : (W2.alloc (.cells #[.slice none 0 0, .slice none 0 0] 32)).heap.size = W2.heap.size + 1 := by simp
  generalize W2.alloc (.cells #[.slice none 0 0, .slice none 0 0] 32) = W3 at *
  rw [yS] at k0 k1 kL kS
  rw [yS] at kF
  have l0 : w.heap.size < W2.heap.size := by omega
  have l1 : w.heap.size + 1 < W2.heap.size := by omega
  have U0 := (kB.cell l0).trans ((yB.cell uL).trans u0)
  have U1 := (kB.cell l0).trans ((yB.cell uL).trans u1)
  have UF : ∀ o, W3.frozen? ⟨w.heap.size, o, none⟩ = false := fun o => (kB.frozen l0).trans ((yB.frozen uL).trans (uF o))
  have Y0 := (kB.cell l1).trans y0
  have Y1 := (kB.cell l1).trans y1
  have Y2 := (kB.cell l1).trans y2
  have Y3 := (kB.cell l1).trans y3
  have acc0 := hidP ((uB.trans (yB.mono uB.size)).trans (kB.mono (Nat.le_trans uB.size yB.size)))
  have UL : w.heap.size < W3.heap.size := by omega
  have YL : w.heap.size + 1 < W3.heap.size := by omega
  have kL3 : w.heap.size + 1 + 1 < W3.heap.size := by omega
  have UL9 := UL
  have kL9 := kL3
  clear uB yB kB uS yS kS u0 u1 y0 y1 y2 y3 uL yL kL uF l0 l1
  refine (HOw.out _ acc0.out).mono ?_
  rintro e w4 ⟨a, c, b, d, rfl, op, ob, hne, hb4⟩
  have pb0_w4 := (hb4.cell UL).trans U0
  have pb1_w4 := (hb4.cell UL).trans U1
  have pbF_w4 : ∀ o, w4.frozen? ⟨w.heap.size, o, none⟩ = false := fun o => (hb4.frozen UL).trans (UF o)
  have pbL_w4 : w.heap.size < w4.heap.size := Nat.lt_of_lt_of_le UL hb4.size
  have at0_w4 := (hb4.cell YL).trans Y0
  have at1_w4 := (hb4.cell YL).trans Y1
  have at2_w4 := (hb4.cell YL).trans Y2
  have at3_w4 := (hb4.cell YL).trans Y3
  have atL_w4 : w.heap.size + 1 < w4.heap.size := Nat.lt_of_lt_of_le YL hb4.size
  have rs0_w4 := (hb4.cell kL3).trans k0
  have rs1_w4 := (hb4.cell kL3).trans k1
  have rsF_w4 : ∀ o, w4.frozen? ⟨w.heap.size + 1 + 1, o, none⟩ = false := fun o => (hb4.frozen kL3).trans (kF o)
  have rsL_w4 : w.heap.size + 1 + 1 < w4.heap.size := Nat.lt_of_lt_of_le kL3 hb4.size
  have acc_w4 := hidP (acc0.out.trans (hb4.mono acc0.out.size))
  have oP_w4 := hidP op
  have oB_w4 := hidP ob
  have HNE := hidP hne
  clear UF U0 U1 UL Y0 Y1 Y2 Y3 YL kF k0 k1 kL3 acc0 hb4 op ob hne
  go_wp2_with fail
  have p0 : ((w4.setCell ⟨w.heap.size, 0, none⟩ (.slice a np c)).setCell ⟨w.heap.size, 1, none⟩ (.slice b nb d)).cell? ⟨w.heap.size, 0, none⟩ = some (.slice a np c) := by simp [go_sem, pb0_w4]
  have p1 : ((w4.setCell ⟨w.heap.size, 0, none⟩ (.slice a np c)).setCell ⟨w.heap.size, 1, none⟩ (.slice b nb d)).cell? ⟨w.heap.size, 1, none⟩ = some (.slice b nb d) := by simp [go_sem, pb1_w4]
  have pF : ∀ o, ((w4.setCell ⟨w.heap.size, 0, none⟩ (.slice a np c)).setCell ⟨w.heap.size, 1, none⟩ (.slice b nb d)).frozen? ⟨w.heap.size, o, none⟩ = false := fun o => by simp [go_sem, pbF_w4 o]
  have q0 : ((w4.setCell ⟨w.heap.size, 0, none⟩ (.slice a np c)).setCell ⟨w.heap.size, 1, none⟩ (.slice b nb d)).cell? ⟨w.heap.size + 1, 0, none⟩ = _ := cell_set2 at0_w4 (by omega)
  have q1 : ((w4.setCell ⟨w.heap.size, 0, none⟩ (.slice a np c)).setCell ⟨w.heap.size, 1, none⟩ (.slice b nb d)).cell? ⟨w.heap.size + 1, 1, none⟩ = _ := cell_set2 at1_w4 (by omega)
  have q2 : ((w4.setCell ⟨w.heap.size, 0, none⟩ (.slice a np c)).setCell ⟨w.heap.size, 1, none⟩ (.slice b nb d)).cell? ⟨w.heap.size + 1, 2, none⟩ = _ := cell_set2 at2_w4 (by omega)
  have q3 : ((w4.setCell ⟨w.heap.size, 0, none⟩ (.slice a np c)).setCell ⟨w.heap.size, 1, none⟩ (.slice b nb d)).cell? ⟨w.heap.size + 1, 3, none⟩ = _ := cell_set2 at3_w4 (by omega)
  have r0 : ((w4.setCell ⟨w.heap.size, 0, none⟩ (.slice a np c)).setCell ⟨w.heap.size, 1, none⟩ (.slice b nb d)).cell? ⟨w.heap.size + 1 + 1, 0, none⟩ = _ := cell_set2 rs0_w4 (by omega)
  have r1 : ((w4.setCell ⟨w.heap.size, 0, none⟩ (.slice a np c)).setCell ⟨w.heap.size, 1, none⟩ (.slice b nb d)).cell? ⟨w.heap.size + 1 + 1, 1, none⟩ = _ := cell_set2 rs1_w4 (by omega)
  have rF : ∀ o, ((w4.setCell ⟨w.heap.size, 0, none⟩ (.slice a np c)).setCell ⟨w.heap.size, 1, none⟩ (.slice b nb d)).frozen? ⟨w.heap.size + 1 + 1, o, none⟩ = false := fun o => frz_set2 (rsF_w4 o) (by omega)
  have oP5 : Hid (OwnG KPl 48 ((w4.setCell ⟨w.heap.size, 0, none⟩ (.slice a np c)).setCell ⟨w.heap.size, 1, none⟩ (.slice b nb d)) W3.heap.size (.slice a np c) ps) := hidP (OwnG.set2 oP_w4.out UL9)
  have oB5 : Hid (OwnG KBk 56 ((w4.setCell ⟨w.heap.size, 0, none⟩ (.slice a np c)).setCell ⟨w.heap.size, 1, none⟩ (.slice b nb d)) W3.heap.size (.slice b nb d) bs) := hidP (OwnG.set2 oB_w4.out UL9)
  have acc5 : Hid (Below w.heap.size w ((w4.setCell ⟨w.heap.size, 0, none⟩ (.slice a np c)).setCell ⟨w.heap.size, 1, none⟩ (.slice b nb d))) := hidP (below_set2 acc_w4.out (Nat.le_refl _))
  have sL5 : ((w4.setCell ⟨w.heap.size, 0, none⟩ (.slice a np c)).setCell ⟨w.heap.size, 1, none⟩ (.slice b nb d)).heap.size = w4.heap.size := by simp
  generalize ((w4.setCell ⟨w.heap.size, 0, none⟩ (.slice a np c)).setCell ⟨w.heap.size, 1, none⟩ (.slice b nb d)) = W5 at *
  have pL5 : w.heap.size < W5.heap.size := by have := pbL_w4; omega
  have qL5 : w.heap.size + 1 < W5.heap.size := by have := atL_w4; omega
  have rL5 : w.heap.size + 1 + 1 < W5.heap.size := by have := rsL_w4; omega
  clear pb0_w4 pb1_w4 pbL_w4 at0_w4 at1_w4 at2_w4 at3_w4 atL_w4 rs0_w4 rs1_w4 rsL_w4 pbF_w4 rsF_w4 oP_w4 oB_w4 acc_w4 sL5
  refine (HPO.out _ a c b d oP5.out.row oB5.out.row).mono ?_
  rintro e w6 ⟨rfl, hb6⟩
  have pb0_w6 := (hb6.cell pL5).trans p0
  have pb1_w6 := (hb6.cell pL5).trans p1
  have pbF_w6 : ∀ o, w6.frozen? ⟨w.heap.size, o, none⟩ = false := fun o => (hb6.frozen pL5).trans (pF o)
  have pbL_w6 : w.heap.size < w6.heap.size := Nat.lt_of_lt_of_le pL5 hb6.size
  have at0_w6 := (hb6.cell qL5).trans q0
  have at1_w6 := (hb6.cell qL5).trans q1
  have at2_w6 := (hb6.cell qL5).trans q2
  have at3_w6 := (hb6.cell qL5).trans q3
  have atL_w6 : w.heap.size + 1 < w6.heap.size := Nat.lt_of_lt_of_le qL5 hb6.size
  have rs0_w6 := (hb6.cell rL5).trans r0
  have rs1_w6 := (hb6.cell rL5).trans r1
  have rsF_w6 : ∀ o, w6.frozen? ⟨w.heap.size + 1 + 1, o, none⟩ = false := fun o => (hb6.frozen rL5).trans (rF o)
  have rsL_w6 : w.heap.size + 1 + 1 < w6.heap.size := Nat.lt_of_lt_of_le rL5 hb6.size
  have oP_w6 := hidP (OwnG.later oP5.out hb6)
  have oB_w6 := hidP (OwnG.later oB5.out hb6)
  have acc_w6 := hidP (acc5.out.trans (hb6.mono acc5.out.size))
  clear pF p0 p1 pL5 q0 q1 q2 q3 qL5 rF r0 r1 rL5 oP5 oB5 acc5 hb6
  go_wp2_with fail
  refine (HPk.out _).mono ?_
  rintro e w7 ⟨rfl, hb7⟩
  have pb0_w7 := (hb7.cell pbL_w6).trans pb0_w6
  have pb1_w7 := (hb7.cell pbL_w6).trans pb1_w6
  have pbF_w7 : ∀ o, w7.frozen? ⟨w.heap.size, o, none⟩ = false := fun o => (hb7.frozen pbL_w6).trans (pbF_w6 o)
  have pbL_w7 : w.heap.size < w7.heap.size := Nat.lt_of_lt_of_le pbL_w6 hb7.size
  have at0_w7 := (hb7.cell atL_w6).trans at0_w6
  have at1_w7 := (hb7.cell atL_w6).trans at1_w6
  have at2_w7 := (hb7.cell atL_w6).trans at2_w6
  have at3_w7 := (hb7.cell atL_w6).trans at3_w6
  have atL_w7 : w.heap.size + 1 < w7.heap.size := Nat.lt_of_lt_of_le atL_w6 hb7.size
  have rs0_w7 := (hb7.cell rsL_w6).trans rs0_w6
  have rs1_w7 := (hb7.cell rsL_w6).trans rs1_w6
  have rsF_w7 : ∀ o, w7.frozen? ⟨w.heap.size + 1 + 1, o, none⟩ = false := fun o => (hb7.frozen rsL_w6).trans (rsF_w6 o)
  have rsL_w7 : w.heap.size + 1 + 1 < w7.heap.size := Nat.lt_of_lt_of_le rsL_w6 hb7.size
  have oP_w7 := hidP (OwnG.later oP_w6.out hb7)
  have oB_w7 := hidP (OwnG.later oB_w6.out hb7)
  have acc_w7 := hidP (acc_w6.out.trans (hb7.mono acc_w6.out.size))
  clear pbF_w6 pb0_w6 pb1_w6 pbL_w6 at0_w6 at1_w6 at2_w6 at3_w6 atL_w6 rsF_w6 rs0_w6 rs1_w6 rsL_w6 oP_w6 oB_w6 acc_w6 hb7
  go_wp2_with fail
  refine bodyPost_ret (v := .tuple #[.agg #[.slice a np c, .slice b nb d], .int .i64 1]) (by simp [results, Try.results23, go_sem, rs0_w7, rs1_w7]) rfl ⟨_, _, _, _, rfl, (OwnG.set2 oP_w7.out kL9).mono (Nat.le_of_lt UL9), (OwnG.set2 oB_w7.out kL9).mono (Nat.le_of_lt UL9), HNE.out, below_set2 acc_w7.out (by omega)⟩

set_option maxRecDepth 10000 in
set_option maxHeartbeats 4000000 in
theorem iDrop_c (pt : Pf) (g h : Nat) (np nb : Nat) (ps : List Pl) (bs : List Bk) (w : World) (hnp : np = ps.length) (hnb : nb = bs.length) (hP : RowG KPl w (some ⟨g, 0, none⟩) ps) (hK : RowG KBk w (some ⟨h, 0, none⟩) bs) (hl : np ≤ 1048576) (hl' : nb ≤ 1048576) (hst : ∀ q ∈ bs, q.t.size ≤ 9223372036854775807) (hr : planB ps bs = true) (hk : pt.pk = true) (hp : plc pt ps = -1) :
    Calls Try.prog 23 #[.agg #[.slice (some ⟨g, 0, none⟩) np np, .slice (some ⟨h, 0, none⟩) nb nb], .agg #[.bool pt.s, .int .i64 pt.H.toInt, .int .i64 pt.L.toInt, .int .i64 pt.b]] w fun e w' => ∃ a c b d, e = .returned (.tuple #[.agg #[.slice a np c, .slice b nb d], .int .i64 (4)]) ∧ OwnG KPl 48 w' w.heap.size (.slice a np c) (ps) ∧ OwnG KBk 56 w' w.heap.size (.slice b nb d) (bs) ∧ (∀ k, (Value.slice a np c).ownBlock = some k → (Value.slice b nb d).ownBlock ≠ some k) ∧ Below w.heap.size w w' := by
  have HOw := hidP (fun W h' => ownPlan_any (some ⟨g, 0, none⟩) np np (some ⟨h, 0, none⟩) nb nb ps bs W hnp hnb (hP.later h') (hK.later h') hl hl')
  have HPO := hidP (fun W a c b d e1 e2 => iPlanOk_any a np c b nb d ps bs W hnp hnb e1 e2 (by omega) (by omega) hst)
  have HPk := hidP (iPrefixOk_any pt.s pt.H pt.L pt.b)
  change Hid (∀ w, Calls Try.prog 62 _ w fun e w' => e = .returned (.bool pt.pk) ∧ Below w.heap.size w w') at HPk
  have HPl := hidP (fun W a c b d e1 => placeOfPool_any pt a np c b nb d ps W hnp e1 (by omega))
  have HBI := hidP (fun W a c b d e2 => blocksIn_any pt a np c b nb d bs W hnb e2 hl')
  have HN := hidP (And.intro hnp hnb)
  clear hP hK hnp hnb hst
  rw [hr] at HPO
  rw [hk] at HPk
  rw [hp] at HPl
  go_enter Try.func23, Try.ntmps23
  go_wp2_with fail
  have uF := frz2 w 32 (.slice (some ⟨g, 0, none⟩) np np) (.slice (some ⟨h, 0, none⟩) nb nb)
  obtain ⟨u0, u1⟩ := box2 (u := .slice (some ⟨g, 0, none⟩) np np) (v := .slice (some ⟨h, 0, none⟩) nb nb) w 32
  have uB := alloc_below w (.cells #[.slice (some ⟨g, 0, none⟩) np np, .slice (some ⟨h, 0, none⟩) nb nb] 32)
  have uL := alloc_lt w (.cells #[.slice (some ⟨g, 0, none⟩) np np, .slice (some ⟨h, 0, none⟩) nb nb] 32)
  have uS : (w.alloc (.cells #[.slice (some ⟨g, 0, none⟩) np np, .slice (some ⟨h, 0, none⟩) nb nb] 32)).heap.size = w.heap.size + 1 := by simp
  generalize w.alloc (.cells #[.slice (some ⟨g, 0, none⟩) np np, .slice (some ⟨h, 0, none⟩) nb nb] 32) = W1 at *
  obtain ⟨y0, y1, y2, y3⟩ := box4 (p := pt) W1 46
  have yB := alloc_below W1 (.cells #[.bool pt.s, .int .i64 pt.H.toInt, .int .i64 pt.L.toInt, .int .i64 pt.b] 46)
  have yL := alloc_lt W1 (.cells #[.bool pt.s, .int .i64 pt.H.toInt, .int .i64 pt.L.toInt, .int .i64 pt.b] 46)
  have yS : (W1.alloc (.cells #[.bool pt.s, .int .i64 pt.H.toInt, .int .i64 pt.L.toInt, .int .i64 pt.b] 46)).heap.size = W1.heap.size + 1 := by simp
  generalize W1.alloc (.cells #[.bool pt.s, .int .i64 pt.H.toInt, .int .i64 pt.L.toInt, .int .i64 pt.b] 46) = W2 at *
  rw [uS] at y0 y1 y2 y3 yL yS
  have kF := frz2 W2 32 (.slice none 0 0) (.slice none 0 0)
  obtain ⟨k0, k1⟩ := box2 (u := .slice none 0 0) (v := .slice none 0 0) W2 32
  have kB := alloc_below W2 (.cells #[.slice none 0 0, .slice none 0 0] 32)
  have kL := alloc_lt W2 (.cells #[.slice none 0 0, .slice none 0 0] 32)
  have kS : (W2.alloc (.cells #[.slice none 0 0, .slice none 0 0] 32)).heap.size = W2.heap.size + 1 := by simp
  generalize W2.alloc (.cells #[.slice none 0 0, .slice none 0 0] 32) = W3 at *
  rw [yS] at k0 k1 kL kS
  rw [yS] at kF
  have l0 : w.heap.size < W2.heap.size := by omega
  have l1 : w.heap.size + 1 < W2.heap.size := by omega
  have U0 := (kB.cell l0).trans ((yB.cell uL).trans u0)
  have U1 := (kB.cell l0).trans ((yB.cell uL).trans u1)
  have UF : ∀ o, W3.frozen? ⟨w.heap.size, o, none⟩ = false := fun o => (kB.frozen l0).trans ((yB.frozen uL).trans (uF o))
  have Y0 := (kB.cell l1).trans y0
  have Y1 := (kB.cell l1).trans y1
  have Y2 := (kB.cell l1).trans y2
  have Y3 := (kB.cell l1).trans y3
  have acc0 := hidP ((uB.trans (yB.mono uB.size)).trans (kB.mono (Nat.le_trans uB.size yB.size)))
  have UL : w.heap.size < W3.heap.size := by omega
  have YL : w.heap.size + 1 < W3.heap.size := by omega
  have kL3 : w.heap.size + 1 + 1 < W3.heap.size := by omega
  have UL9 := UL
  have kL9 := kL3
  clear uB yB kB uS yS kS u0 u1 y0 y1 y2 y3 uL yL kL uF l0 l1
  refine (HOw.out _ acc0.out).mono ?_
  rintro e w4 ⟨a, c, b, d, rfl, op, ob, hne, hb4⟩
  have pb0_w4 := (hb4.cell UL).trans U0
  have pb1_w4 := (hb4.cell UL).trans U1
  have pbF_w4 : ∀ o, w4.frozen? ⟨w.heap.size, o, none⟩ = false := fun o => (hb4.frozen UL).trans (UF o)
  have pbL_w4 : w.heap.size < w4.heap.size := Nat.lt_of_lt_of_le UL hb4.size
  have at0_w4 := (hb4.cell YL).trans Y0
  have at1_w4 := (hb4.cell YL).trans Y1
  have at2_w4 := (hb4.cell YL).trans Y2
  have at3_w4 := (hb4.cell YL).trans Y3
  have atL_w4 : w.heap.size + 1 < w4.heap.size := Nat.lt_of_lt_of_le YL hb4.size
  have rs0_w4 := (hb4.cell kL3).trans k0
  have rs1_w4 := (hb4.cell kL3).trans k1
  have rsF_w4 : ∀ o, w4.frozen? ⟨w.heap.size + 1 + 1, o, none⟩ = false := fun o => (hb4.frozen kL3).trans (kF o)
  have rsL_w4 : w.heap.size + 1 + 1 < w4.heap.size := Nat.lt_of_lt_of_le kL3 hb4.size
  have acc_w4 := hidP (acc0.out.trans (hb4.mono acc0.out.size))
  have oP_w4 := hidP op
  have oB_w4 := hidP ob
  have HNE := hidP hne
  clear UF U0 U1 UL Y0 Y1 Y2 Y3 YL kF k0 k1 kL3 acc0 hb4 op ob hne
  go_wp2_with fail
  have p0 : ((w4.setCell ⟨w.heap.size, 0, none⟩ (.slice a np c)).setCell ⟨w.heap.size, 1, none⟩ (.slice b nb d)).cell? ⟨w.heap.size, 0, none⟩ = some (.slice a np c) := by simp [go_sem, pb0_w4]
  have p1 : ((w4.setCell ⟨w.heap.size, 0, none⟩ (.slice a np c)).setCell ⟨w.heap.size, 1, none⟩ (.slice b nb d)).cell? ⟨w.heap.size, 1, none⟩ = some (.slice b nb d) := by simp [go_sem, pb1_w4]
  have pF : ∀ o, ((w4.setCell ⟨w.heap.size, 0, none⟩ (.slice a np c)).setCell ⟨w.heap.size, 1, none⟩ (.slice b nb d)).frozen? ⟨w.heap.size, o, none⟩ = false := fun o => by simp [go_sem, pbF_w4 o]
  have q0 : ((w4.setCell ⟨w.heap.size, 0, none⟩ (.slice a np c)).setCell ⟨w.heap.size, 1, none⟩ (.slice b nb d)).cell? ⟨w.heap.size + 1, 0, none⟩ = _ := cell_set2 at0_w4 (by omega)
  have q1 : ((w4.setCell ⟨w.heap.size, 0, none⟩ (.slice a np c)).setCell ⟨w.heap.size, 1, none⟩ (.slice b nb d)).cell? ⟨w.heap.size + 1, 1, none⟩ = _ := cell_set2 at1_w4 (by omega)
  have q2 : ((w4.setCell ⟨w.heap.size, 0, none⟩ (.slice a np c)).setCell ⟨w.heap.size, 1, none⟩ (.slice b nb d)).cell? ⟨w.heap.size + 1, 2, none⟩ = _ := cell_set2 at2_w4 (by omega)
  have q3 : ((w4.setCell ⟨w.heap.size, 0, none⟩ (.slice a np c)).setCell ⟨w.heap.size, 1, none⟩ (.slice b nb d)).cell? ⟨w.heap.size + 1, 3, none⟩ = _ := cell_set2 at3_w4 (by omega)
  have r0 : ((w4.setCell ⟨w.heap.size, 0, none⟩ (.slice a np c)).setCell ⟨w.heap.size, 1, none⟩ (.slice b nb d)).cell? ⟨w.heap.size + 1 + 1, 0, none⟩ = _ := cell_set2 rs0_w4 (by omega)
  have r1 : ((w4.setCell ⟨w.heap.size, 0, none⟩ (.slice a np c)).setCell ⟨w.heap.size, 1, none⟩ (.slice b nb d)).cell? ⟨w.heap.size + 1 + 1, 1, none⟩ = _ := cell_set2 rs1_w4 (by omega)
  have rF : ∀ o, ((w4.setCell ⟨w.heap.size, 0, none⟩ (.slice a np c)).setCell ⟨w.heap.size, 1, none⟩ (.slice b nb d)).frozen? ⟨w.heap.size + 1 + 1, o, none⟩ = false := fun o => frz_set2 (rsF_w4 o) (by omega)
  have oP5 : Hid (OwnG KPl 48 ((w4.setCell ⟨w.heap.size, 0, none⟩ (.slice a np c)).setCell ⟨w.heap.size, 1, none⟩ (.slice b nb d)) W3.heap.size (.slice a np c) ps) := hidP (OwnG.set2 oP_w4.out UL9)
  have oB5 : Hid (OwnG KBk 56 ((w4.setCell ⟨w.heap.size, 0, none⟩ (.slice a np c)).setCell ⟨w.heap.size, 1, none⟩ (.slice b nb d)) W3.heap.size (.slice b nb d) bs) := hidP (OwnG.set2 oB_w4.out UL9)
  have acc5 : Hid (Below w.heap.size w ((w4.setCell ⟨w.heap.size, 0, none⟩ (.slice a np c)).setCell ⟨w.heap.size, 1, none⟩ (.slice b nb d))) := hidP (below_set2 acc_w4.out (Nat.le_refl _))
  have sL5 : ((w4.setCell ⟨w.heap.size, 0, none⟩ (.slice a np c)).setCell ⟨w.heap.size, 1, none⟩ (.slice b nb d)).heap.size = w4.heap.size := by simp
  generalize ((w4.setCell ⟨w.heap.size, 0, none⟩ (.slice a np c)).setCell ⟨w.heap.size, 1, none⟩ (.slice b nb d)) = W5 at *
  have pL5 : w.heap.size < W5.heap.size := by have := pbL_w4; omega
  have qL5 : w.heap.size + 1 < W5.heap.size := by have := atL_w4; omega
  have rL5 : w.heap.size + 1 + 1 < W5.heap.size := by have := rsL_w4; omega
  clear pb0_w4 pb1_w4 pbL_w4 at0_w4 at1_w4 at2_w4 at3_w4 atL_w4 rs0_w4 rs1_w4 rsL_w4 pbF_w4 rsF_w4 oP_w4 oB_w4 acc_w4 sL5
  refine (HPO.out _ a c b d oP5.out.row oB5.out.row).mono ?_
  rintro e w6 ⟨rfl, hb6⟩
  have pb0_w6 := (hb6.cell pL5).trans p0
  have pb1_w6 := (hb6.cell pL5).trans p1
  have pbF_w6 : ∀ o, w6.frozen? ⟨w.heap.size, o, none⟩ = false := fun o => (hb6.frozen pL5).trans (pF o)
  have pbL_w6 : w.heap.size < w6.heap.size := Nat.lt_of_lt_of_le pL5 hb6.size
  have at0_w6 := (hb6.cell qL5).trans q0
  have at1_w6 := (hb6.cell qL5).trans q1
  have at2_w6 := (hb6.cell qL5).trans q2
  have at3_w6 := (hb6.cell qL5).trans q3
  have atL_w6 : w.heap.size + 1 < w6.heap.size := Nat.lt_of_lt_of_le qL5 hb6.size
  have rs0_w6 := (hb6.cell rL5).trans r0
  have rs1_w6 := (hb6.cell rL5).trans r1
  have rsF_w6 : ∀ o, w6.frozen? ⟨w.heap.size + 1 + 1, o, none⟩ = false := fun o => (hb6.frozen rL5).trans (rF o)
  have rsL_w6 : w.heap.size + 1 + 1 < w6.heap.size := Nat.lt_of_lt_of_le rL5 hb6.size
  have oP_w6 := hidP (OwnG.later oP5.out hb6)
  have oB_w6 := hidP (OwnG.later oB5.out hb6)
  have acc_w6 := hidP (acc5.out.trans (hb6.mono acc5.out.size))
  clear pF p0 p1 pL5 q0 q1 q2 q3 qL5 rF r0 r1 rL5 oP5 oB5 acc5 hb6
  go_wp2_with fail
  refine (HPk.out _).mono ?_
  rintro e w7 ⟨rfl, hb7⟩
  have pb0_w7 := (hb7.cell pbL_w6).trans pb0_w6
  have pb1_w7 := (hb7.cell pbL_w6).trans pb1_w6
  have pbF_w7 : ∀ o, w7.frozen? ⟨w.heap.size, o, none⟩ = false := fun o => (hb7.frozen pbL_w6).trans (pbF_w6 o)
  have pbL_w7 : w.heap.size < w7.heap.size := Nat.lt_of_lt_of_le pbL_w6 hb7.size
  have at0_w7 := (hb7.cell atL_w6).trans at0_w6
  have at1_w7 := (hb7.cell atL_w6).trans at1_w6
  have at2_w7 := (hb7.cell atL_w6).trans at2_w6
  have at3_w7 := (hb7.cell atL_w6).trans at3_w6
  have atL_w7 : w.heap.size + 1 < w7.heap.size := Nat.lt_of_lt_of_le atL_w6 hb7.size
  have rs0_w7 := (hb7.cell rsL_w6).trans rs0_w6
  have rs1_w7 := (hb7.cell rsL_w6).trans rs1_w6
  have rsF_w7 : ∀ o, w7.frozen? ⟨w.heap.size + 1 + 1, o, none⟩ = false := fun o => (hb7.frozen rsL_w6).trans (rsF_w6 o)
  have rsL_w7 : w.heap.size + 1 + 1 < w7.heap.size := Nat.lt_of_lt_of_le rsL_w6 hb7.size
  have oP_w7 := hidP (OwnG.later oP_w6.out hb7)
  have oB_w7 := hidP (OwnG.later oB_w6.out hb7)
  have acc_w7 := hidP (acc_w6.out.trans (hb7.mono acc_w6.out.size))
  clear pbF_w6 pb0_w6 pb1_w6 pbL_w6 at0_w6 at1_w6 at2_w6 at3_w6 atL_w6 rsF_w6 rs0_w6 rs1_w6 rsL_w6 oP_w6 oB_w6 acc_w6 hb7
  go_wp2_with fail
  refine (HPl.out _ a c b d oP_w7.out.row).mono ?_
  rintro e w8 ⟨rfl, hb8⟩
  have pb0_w8 := (hb8.cell pbL_w7).trans pb0_w7
  have pb1_w8 := (hb8.cell pbL_w7).trans pb1_w7
  have pbF_w8 : ∀ o, w8.frozen? ⟨w.heap.size, o, none⟩ = false := fun o => (hb8.frozen pbL_w7).trans (pbF_w7 o)
  have pbL_w8 : w.heap.size < w8.heap.size := Nat.lt_of_lt_of_le pbL_w7 hb8.size
  have at0_w8 := (hb8.cell atL_w7).trans at0_w7
  have at1_w8 := (hb8.cell atL_w7).trans at1_w7
  have at2_w8 := (hb8.cell atL_w7).trans at2_w7
  have at3_w8 := (hb8.cell atL_w7).trans at3_w7
  have atL_w8 : w.heap.size + 1 < w8.heap.size := Nat.lt_of_lt_of_le atL_w7 hb8.size
  have rs0_w8 := (hb8.cell rsL_w7).trans rs0_w7
  have rs1_w8 := (hb8.cell rsL_w7).trans rs1_w7
  have rsF_w8 : ∀ o, w8.frozen? ⟨w.heap.size + 1 + 1, o, none⟩ = false := fun o => (hb8.frozen rsL_w7).trans (rsF_w7 o)
  have rsL_w8 : w.heap.size + 1 + 1 < w8.heap.size := Nat.lt_of_lt_of_le rsL_w7 hb8.size
  have oP_w8 := hidP (OwnG.later oP_w7.out hb8)
  have oB_w8 := hidP (OwnG.later oB_w7.out hb8)
  have acc_w8 := hidP (acc_w7.out.trans (hb8.mono acc_w7.out.size))
  clear pbF_w7 pb0_w7 pb1_w7 pbL_w7 at0_w7 at1_w7 at2_w7 at3_w7 atL_w7 rsF_w7 rs0_w7 rs1_w7 rsL_w7 oP_w7 oB_w7 acc_w7 hb8
  go_wp2_with fail
  refine bodyPost_ret (v := .tuple #[.agg #[.slice a np c, .slice b nb d], .int .i64 4]) (by simp [results, Try.results23, go_sem, rs0_w8, rs1_w8]) rfl ⟨_, _, _, _, rfl, (OwnG.set2 oP_w8.out kL9).mono (Nat.le_of_lt UL9), (OwnG.set2 oB_w8.out kL9).mono (Nat.le_of_lt UL9), HNE.out, below_set2 acc_w8.out (by omega)⟩

set_option maxRecDepth 10000 in
set_option maxHeartbeats 4000000 in
theorem iDrop_d (pt : Pf) (g h : Nat) (np nb : Nat) (ps : List Pl) (bs : List Bk) (w : World) (hnp : np = ps.length) (hnb : nb = bs.length) (hP : RowG KPl w (some ⟨g, 0, none⟩) ps) (hK : RowG KBk w (some ⟨h, 0, none⟩) bs) (hl : np ≤ 1048576) (hl' : nb ≤ 1048576) (hst : ∀ q ∈ bs, q.t.size ≤ 9223372036854775807) (hr : planB ps bs = true) (hk : pt.pk = true) (i : Nat) (hp : plc pt ps = (i : Int)) (hu : 0 < (fil bs pt).length) :
    Calls Try.prog 23 #[.agg #[.slice (some ⟨g, 0, none⟩) np np, .slice (some ⟨h, 0, none⟩) nb nb], .agg #[.bool pt.s, .int .i64 pt.H.toInt, .int .i64 pt.L.toInt, .int .i64 pt.b]] w fun e w' => ∃ a c b d, e = .returned (.tuple #[.agg #[.slice a np c, .slice b nb d], .int .i64 (6)]) ∧ OwnG KPl 48 w' w.heap.size (.slice a np c) (ps) ∧ OwnG KBk 56 w' w.heap.size (.slice b nb d) (bs) ∧ (∀ k, (Value.slice a np c).ownBlock = some k → (Value.slice b nb d).ownBlock ≠ some k) ∧ Below w.heap.size w w' := by
  have HOw := hidP (fun W h' => ownPlan_any (some ⟨g, 0, none⟩) np np (some ⟨h, 0, none⟩) nb nb ps bs W hnp hnb (hP.later h') (hK.later h') hl hl')
  have HPO := hidP (fun W a c b d e1 e2 => iPlanOk_any a np c b nb d ps bs W hnp hnb e1 e2 (by omega) (by omega) hst)
  have HPk := hidP (iPrefixOk_any pt.s pt.H pt.L pt.b)
  change Hid (∀ w, Calls Try.prog 62 _ w fun e w' => e = .returned (.bool pt.pk) ∧ Below w.heap.size w w') at HPk
  have HPl := hidP (fun W a c b d e1 => placeOfPool_any pt a np c b nb d ps W hnp e1 (by omega))
  have HBI := hidP (fun W a c b d e2 => blocksIn_any pt a np c b nb d bs W hnb e2 hl')
  have HN := hidP (And.intro hnp hnb)
  clear hP hK hnp hnb hst
  rw [hr] at HPO
  rw [hk] at HPk
  rw [hp] at HPl
  have gi : decide ((i : Int) < 0) = false := decide_eq_false (by omega)
  have gu : decide ((0 : Int) < ((fil bs pt).length : Int)) = true := decide_eq_true (by omega)
  have gu2 : decide (0 < (fil bs pt).length) = true := decide_eq_true hu
  go_enter Try.func23, Try.ntmps23
  go_wp2_with fail
  have uF := frz2 w 32 (.slice (some ⟨g, 0, none⟩) np np) (.slice (some ⟨h, 0, none⟩) nb nb)
  obtain ⟨u0, u1⟩ := box2 (u := .slice (some ⟨g, 0, none⟩) np np) (v := .slice (some ⟨h, 0, none⟩) nb nb) w 32
  have uB := alloc_below w (.cells #[.slice (some ⟨g, 0, none⟩) np np, .slice (some ⟨h, 0, none⟩) nb nb] 32)
  have uL := alloc_lt w (.cells #[.slice (some ⟨g, 0, none⟩) np np, .slice (some ⟨h, 0, none⟩) nb nb] 32)
  have uS : (w.alloc (.cells #[.slice (some ⟨g, 0, none⟩) np np, .slice (some ⟨h, 0, none⟩) nb nb] 32)).heap.size = w.heap.size + 1 := by simp
  generalize w.alloc (.cells #[.slice (some ⟨g, 0, none⟩) np np, .slice (some ⟨h, 0, none⟩) nb nb] 32) = W1 at *
  obtain ⟨y0, y1, y2, y3⟩ := box4 (p := pt) W1 46
  have yB := alloc_below W1 (.cells #[.bool pt.s, .int .i64 pt.H.toInt, .int .i64 pt.L.toInt, .int .i64 pt.b] 46)
  have yL := alloc_lt W1 (.cells #[.bool pt.s, .int .i64 pt.H.toInt, .int .i64 pt.L.toInt, .int .i64 pt.b] 46)
  have yS : (W1.alloc (.cells #[.bool pt.s, .int .i64 pt.H.toInt, .int .i64 pt.L.toInt, .int .i64 pt.b] 46)).heap.size = W1.heap.size + 1 := by simp
  generalize W1.alloc (.cells #[.bool pt.s, .int .i64 pt.H.toInt, .int .i64 pt.L.toInt, .int .i64 pt.b] 46) = W2 at *
  rw [uS] at y0 y1 y2 y3 yL yS
  have kF := frz2 W2 32 (.slice none 0 0) (.slice none 0 0)
  obtain ⟨k0, k1⟩ := box2 (u := .slice none 0 0) (v := .slice none 0 0) W2 32
  have kB := alloc_below W2 (.cells #[.slice none 0 0, .slice none 0 0] 32)
  have kL := alloc_lt W2 (.cells #[.slice none 0 0, .slice none 0 0] 32)
  have kS : (W2.alloc (.cells #[.slice none 0 0, .slice none 0 0] 32)).heap.size = W2.heap.size + 1 := by simp
  generalize W2.alloc (.cells #[.slice none 0 0, .slice none 0 0] 32) = W3 at *
  rw [yS] at k0 k1 kL kS
  rw [yS] at kF
  have l0 : w.heap.size < W2.heap.size := by omega
  have l1 : w.heap.size + 1 < W2.heap.size := by omega
  have U0 := (kB.cell l0).trans ((yB.cell uL).trans u0)
  have U1 := (kB.cell l0).trans ((yB.cell uL).trans u1)
  have UF : ∀ o, W3.frozen? ⟨w.heap.size, o, none⟩ = false := fun o => (kB.frozen l0).trans ((yB.frozen uL).trans (uF o))
  have Y0 := (kB.cell l1).trans y0
  have Y1 := (kB.cell l1).trans y1
  have Y2 := (kB.cell l1).trans y2
  have Y3 := (kB.cell l1).trans y3
  have acc0 := hidP ((uB.trans (yB.mono uB.size)).trans (kB.mono (Nat.le_trans uB.size yB.size)))
  have UL : w.heap.size < W3.heap.size := by omega
  have YL : w.heap.size + 1 < W3.heap.size := by omega
  have kL3 : w.heap.size + 1 + 1 < W3.heap.size := by omega
  have UL9 := UL
  have kL9 := kL3
  clear uB yB kB uS yS kS u0 u1 y0 y1 y2 y3 uL yL kL uF l0 l1
  refine (HOw.out _ acc0.out).mono ?_
  rintro e w4 ⟨a, c, b, d, rfl, op, ob, hne, hb4⟩
  have pb0_w4 := (hb4.cell UL).trans U0
  have pb1_w4 := (hb4.cell UL).trans U1
  have pbF_w4 : ∀ o, w4.frozen? ⟨w.heap.size, o, none⟩ = false := fun o => (hb4.frozen UL).trans (UF o)
  have pbL_w4 : w.heap.size < w4.heap.size := Nat.lt_of_lt_of_le UL hb4.size
  have at0_w4 := (hb4.cell YL).trans Y0
  have at1_w4 := (hb4.cell YL).trans Y1
  have at2_w4 := (hb4.cell YL).trans Y2
  have at3_w4 := (hb4.cell YL).trans Y3
  have atL_w4 : w.heap.size + 1 < w4.heap.size := Nat.lt_of_lt_of_le YL hb4.size
  have rs0_w4 := (hb4.cell kL3).trans k0
  have rs1_w4 := (hb4.cell kL3).trans k1
  have rsF_w4 : ∀ o, w4.frozen? ⟨w.heap.size + 1 + 1, o, none⟩ = false := fun o => (hb4.frozen kL3).trans (kF o)
  have rsL_w4 : w.heap.size + 1 + 1 < w4.heap.size := Nat.lt_of_lt_of_le kL3 hb4.size
  have acc_w4 := hidP (acc0.out.trans (hb4.mono acc0.out.size))
  have oP_w4 := hidP op
  have oB_w4 := hidP ob
  have HNE := hidP hne
  clear UF U0 U1 UL Y0 Y1 Y2 Y3 YL kF k0 k1 kL3 acc0 hb4 op ob hne
  go_wp2_with fail
  have p0 : ((w4.setCell ⟨w.heap.size, 0, none⟩ (.slice a np c)).setCell ⟨w.heap.size, 1, none⟩ (.slice b nb d)).cell? ⟨w.heap.size, 0, none⟩ = some (.slice a np c) := by simp [go_sem, pb0_w4]
  have p1 : ((w4.setCell ⟨w.heap.size, 0, none⟩ (.slice a np c)).setCell ⟨w.heap.size, 1, none⟩ (.slice b nb d)).cell? ⟨w.heap.size, 1, none⟩ = some (.slice b nb d) := by simp [go_sem, pb1_w4]
  have pF : ∀ o, ((w4.setCell ⟨w.heap.size, 0, none⟩ (.slice a np c)).setCell ⟨w.heap.size, 1, none⟩ (.slice b nb d)).frozen? ⟨w.heap.size, o, none⟩ = false := fun o => by simp [go_sem, pbF_w4 o]
  have q0 : ((w4.setCell ⟨w.heap.size, 0, none⟩ (.slice a np c)).setCell ⟨w.heap.size, 1, none⟩ (.slice b nb d)).cell? ⟨w.heap.size + 1, 0, none⟩ = _ := cell_set2 at0_w4 (by omega)
  have q1 : ((w4.setCell ⟨w.heap.size, 0, none⟩ (.slice a np c)).setCell ⟨w.heap.size, 1, none⟩ (.slice b nb d)).cell? ⟨w.heap.size + 1, 1, none⟩ = _ := cell_set2 at1_w4 (by omega)
  have q2 : ((w4.setCell ⟨w.heap.size, 0, none⟩ (.slice a np c)).setCell ⟨w.heap.size, 1, none⟩ (.slice b nb d)).cell? ⟨w.heap.size + 1, 2, none⟩ = _ := cell_set2 at2_w4 (by omega)
  have q3 : ((w4.setCell ⟨w.heap.size, 0, none⟩ (.slice a np c)).setCell ⟨w.heap.size, 1, none⟩ (.slice b nb d)).cell? ⟨w.heap.size + 1, 3, none⟩ = _ := cell_set2 at3_w4 (by omega)
  have r0 : ((w4.setCell ⟨w.heap.size, 0, none⟩ (.slice a np c)).setCell ⟨w.heap.size, 1, none⟩ (.slice b nb d)).cell? ⟨w.heap.size + 1 + 1, 0, none⟩ = _ := cell_set2 rs0_w4 (by omega)
  have r1 : ((w4.setCell ⟨w.heap.size, 0, none⟩ (.slice a np c)).setCell ⟨w.heap.size, 1, none⟩ (.slice b nb d)).cell? ⟨w.heap.size + 1 + 1, 1, none⟩ = _ := cell_set2 rs1_w4 (by omega)
  have rF : ∀ o, ((w4.setCell ⟨w.heap.size, 0, none⟩ (.slice a np c)).setCell ⟨w.heap.size, 1, none⟩ (.slice b nb d)).frozen? ⟨w.heap.size + 1 + 1, o, none⟩ = false := fun o => frz_set2 (rsF_w4 o) (by omega)
  have oP5 : Hid (OwnG KPl 48 ((w4.setCell ⟨w.heap.size, 0, none⟩ (.slice a np c)).setCell ⟨w.heap.size, 1, none⟩ (.slice b nb d)) W3.heap.size (.slice a np c) ps) := hidP (OwnG.set2 oP_w4.out UL9)
  have oB5 : Hid (OwnG KBk 56 ((w4.setCell ⟨w.heap.size, 0, none⟩ (.slice a np c)).setCell ⟨w.heap.size, 1, none⟩ (.slice b nb d)) W3.heap.size (.slice b nb d) bs) := hidP (OwnG.set2 oB_w4.out UL9)
  have acc5 : Hid (Below w.heap.size w ((w4.setCell ⟨w.heap.size, 0, none⟩ (.slice a np c)).setCell ⟨w.heap.size, 1, none⟩ (.slice b nb d))) := hidP (below_set2 acc_w4.out (Nat.le_refl _))
  have sL5 : ((w4.setCell ⟨w.heap.size, 0, none⟩ (.slice a np c)).setCell ⟨w.heap.size, 1, none⟩ (.slice b nb d)).heap.size = w4.heap.size := by simp
  generalize ((w4.setCell ⟨w.heap.size, 0, none⟩ (.slice a np c)).setCell ⟨w.heap.size, 1, none⟩ (.slice b nb d)) = W5 at *
  have pL5 : w.heap.size < W5.heap.size := by have := pbL_w4; omega
  have qL5 : w.heap.size + 1 < W5.heap.size := by have := atL_w4; omega
  have rL5 : w.heap.size + 1 + 1 < W5.heap.size := by have := rsL_w4; omega
  clear pb0_w4 pb1_w4 pbL_w4 at0_w4 at1_w4 at2_w4 at3_w4 atL_w4 rs0_w4 rs1_w4 rsL_w4 pbF_w4 rsF_w4 oP_w4 oB_w4 acc_w4 sL5
  refine (HPO.out _ a c b d oP5.out.row oB5.out.row).mono ?_
  rintro e w6 ⟨rfl, hb6⟩
  have pb0_w6 := (hb6.cell pL5).trans p0
  have pb1_w6 := (hb6.cell pL5).trans p1
  have pbF_w6 : ∀ o, w6.frozen? ⟨w.heap.size, o, none⟩ = false := fun o => (hb6.frozen pL5).trans (pF o)
  have pbL_w6 : w.heap.size < w6.heap.size := Nat.lt_of_lt_of_le pL5 hb6.size
  have at0_w6 := (hb6.cell qL5).trans q0
  have at1_w6 := (hb6.cell qL5).trans q1
  have at2_w6 := (hb6.cell qL5).trans q2
  have at3_w6 := (hb6.cell qL5).trans q3
  have atL_w6 : w.heap.size + 1 < w6.heap.size := Nat.lt_of_lt_of_le qL5 hb6.size
  have rs0_w6 := (hb6.cell rL5).trans r0
  have rs1_w6 := (hb6.cell rL5).trans r1
  have rsF_w6 : ∀ o, w6.frozen? ⟨w.heap.size + 1 + 1, o, none⟩ = false := fun o => (hb6.frozen rL5).trans (rF o)
  have rsL_w6 : w.heap.size + 1 + 1 < w6.heap.size := Nat.lt_of_lt_of_le rL5 hb6.size
  have oP_w6 := hidP (OwnG.later oP5.out hb6)
  have oB_w6 := hidP (OwnG.later oB5.out hb6)
  have acc_w6 := hidP (acc5.out.trans (hb6.mono acc5.out.size))
  clear pF p0 p1 pL5 q0 q1 q2 q3 qL5 rF r0 r1 rL5 oP5 oB5 acc5 hb6
  go_wp2_with fail
  refine (HPk.out _).mono ?_
  rintro e w7 ⟨rfl, hb7⟩
  have pb0_w7 := (hb7.cell pbL_w6).trans pb0_w6
  have pb1_w7 := (hb7.cell pbL_w6).trans pb1_w6
  have pbF_w7 : ∀ o, w7.frozen? ⟨w.heap.size, o, none⟩ = false := fun o => (hb7.frozen pbL_w6).trans (pbF_w6 o)
  have pbL_w7 : w.heap.size < w7.heap.size := Nat.lt_of_lt_of_le pbL_w6 hb7.size
  have at0_w7 := (hb7.cell atL_w6).trans at0_w6
  have at1_w7 := (hb7.cell atL_w6).trans at1_w6
  have at2_w7 := (hb7.cell atL_w6).trans at2_w6
  have at3_w7 := (hb7.cell atL_w6).trans at3_w6
  have atL_w7 : w.heap.size + 1 < w7.heap.size := Nat.lt_of_lt_of_le atL_w6 hb7.size
  have rs0_w7 := (hb7.cell rsL_w6).trans rs0_w6
  have rs1_w7 := (hb7.cell rsL_w6).trans rs1_w6
  have rsF_w7 : ∀ o, w7.frozen? ⟨w.heap.size + 1 + 1, o, none⟩ = false := fun o => (hb7.frozen rsL_w6).trans (rsF_w6 o)
  have rsL_w7 : w.heap.size + 1 + 1 < w7.heap.size := Nat.lt_of_lt_of_le rsL_w6 hb7.size
  have oP_w7 := hidP (OwnG.later oP_w6.out hb7)
  have oB_w7 := hidP (OwnG.later oB_w6.out hb7)
  have acc_w7 := hidP (acc_w6.out.trans (hb7.mono acc_w6.out.size))
  clear pbF_w6 pb0_w6 pb1_w6 pbL_w6 at0_w6 at1_w6 at2_w6 at3_w6 atL_w6 rsF_w6 rs0_w6 rs1_w6 rsL_w6 oP_w6 oB_w6 acc_w6 hb7
  go_wp2_with fail
  refine (HPl.out _ a c b d oP_w7.out.row).mono ?_
  rintro e w8 ⟨rfl, hb8⟩
  have pb0_w8 := (hb8.cell pbL_w7).trans pb0_w7
  have pb1_w8 := (hb8.cell pbL_w7).trans pb1_w7
  have pbF_w8 : ∀ o, w8.frozen? ⟨w.heap.size, o, none⟩ = false := fun o => (hb8.frozen pbL_w7).trans (pbF_w7 o)
  have pbL_w8 : w.heap.size < w8.heap.size := Nat.lt_of_lt_of_le pbL_w7 hb8.size
  have at0_w8 := (hb8.cell atL_w7).trans at0_w7
  have at1_w8 := (hb8.cell atL_w7).trans at1_w7
  have at2_w8 := (hb8.cell atL_w7).trans at2_w7
  have at3_w8 := (hb8.cell atL_w7).trans at3_w7
  have atL_w8 : w.heap.size + 1 < w8.heap.size := Nat.lt_of_lt_of_le atL_w7 hb8.size
  have rs0_w8 := (hb8.cell rsL_w7).trans rs0_w7
  have rs1_w8 := (hb8.cell rsL_w7).trans rs1_w7
  have rsF_w8 : ∀ o, w8.frozen? ⟨w.heap.size + 1 + 1, o, none⟩ = false := fun o => (hb8.frozen rsL_w7).trans (rsF_w7 o)
  have rsL_w8 : w.heap.size + 1 + 1 < w8.heap.size := Nat.lt_of_lt_of_le rsL_w7 hb8.size
  have oP_w8 := hidP (OwnG.later oP_w7.out hb8)
  have oB_w8 := hidP (OwnG.later oB_w7.out hb8)
  have acc_w8 := hidP (acc_w7.out.trans (hb8.mono acc_w7.out.size))
  clear pbF_w7 pb0_w7 pb1_w7 pbL_w7 at0_w7 at1_w7 at2_w7 at3_w7 atL_w7 rsF_w7 rs0_w7 rs1_w7 rsL_w7 oP_w7 oB_w7 acc_w7 hb8
  go_wp2_with fail
  refine (HBI.out _ a c b d oB_w8.out.row).mono ?_
  rintro e w9 ⟨a9, c9, rfl, _, hb9⟩
  have pb0_w9 := (hb9.cell pbL_w8).trans pb0_w8
  have pb1_w9 := (hb9.cell pbL_w8).trans pb1_w8
  have pbF_w9 : ∀ o, w9.frozen? ⟨w.heap.size, o, none⟩ = false := fun o => (hb9.frozen pbL_w8).trans (pbF_w8 o)
  have pbL_w9 : w.heap.size < w9.heap.size := Nat.lt_of_lt_of_le pbL_w8 hb9.size
  have at0_w9 := (hb9.cell atL_w8).trans at0_w8
  have at1_w9 := (hb9.cell atL_w8).trans at1_w8
  have at2_w9 := (hb9.cell atL_w8).trans at2_w8
  have at3_w9 := (hb9.cell atL_w8).trans at3_w8
  have atL_w9 : w.heap.size + 1 < w9.heap.size := Nat.lt_of_lt_of_le atL_w8 hb9.size
  have rs0_w9 := (hb9.cell rsL_w8).trans rs0_w8
  have rs1_w9 := (hb9.cell rsL_w8).trans rs1_w8
  have rsF_w9 : ∀ o, w9.frozen? ⟨w.heap.size + 1 + 1, o, none⟩ = false := fun o => (hb9.frozen rsL_w8).trans (rsF_w8 o)
  have rsL_w9 : w.heap.size + 1 + 1 < w9.heap.size := Nat.lt_of_lt_of_le rsL_w8 hb9.size
  have oP_w9 := hidP (OwnG.later oP_w8.out hb9)
  have oB_w9 := hidP (OwnG.later oB_w8.out hb9)
  have acc_w9 := hidP (acc_w8.out.trans (hb9.mono acc_w8.out.size))
  clear pbF_w8 pb0_w8 pb1_w8 pbL_w8 at0_w8 at1_w8 at2_w8 at3_w8 atL_w8 rsF_w8 rs0_w8 rs1_w8 rsL_w8 oP_w8 oB_w8 acc_w8 hb9
  generalize (fil bs pt).length = F at *
  go_wp2_with fail
  refine bodyPost_ret (v := .tuple #[.agg #[.slice a np c, .slice b nb d], .int .i64 6]) (by simp [results, Try.results23, go_sem, rs0_w9, rs1_w9]) rfl ⟨_, _, _, _, rfl, (OwnG.set2 oP_w9.out kL9).mono (Nat.le_of_lt UL9), (OwnG.set2 oB_w9.out kL9).mono (Nat.le_of_lt UL9), HNE.out, below_set2 acc_w9.out (by omega)⟩

set_option maxRecDepth 10000 in
set_option maxHeartbeats 4000000 in
theorem iDrop_e (pt : Pf) (g h : Nat) (np nb : Nat) (ps : List Pl) (bs : List Bk) (w : World) (hnp : np = ps.length) (hnb : nb = bs.length) (hP : RowG KPl w (some ⟨g, 0, none⟩) ps) (hK : RowG KBk w (some ⟨h, 0, none⟩) bs) (hl : np ≤ 1048576) (hl' : nb ≤ 1048576) (hst : ∀ q ∈ bs, q.t.size ≤ 9223372036854775807) (hr : planB ps bs = true) (hk : pt.pk = true) (i : Nat) (hi : i < np) (hp : plc pt ps = (i : Int)) (hu : (fil bs pt).length = 0) :
    Calls Try.prog 23 #[.agg #[.slice (some ⟨g, 0, none⟩) np np, .slice (some ⟨h, 0, none⟩) nb nb], .agg #[.bool pt.s, .int .i64 pt.H.toInt, .int .i64 pt.L.toInt, .int .i64 pt.b]] w fun e w' => ∃ a c b d, e = .returned (.tuple #[.agg #[.slice a (np - 1) c, .slice b nb d], .int .i64 (0)]) ∧ OwnG KPl 48 w' w.heap.size (.slice a (np - 1) c) (ps.eraseIdx i) ∧ OwnG KBk 56 w' w.heap.size (.slice b nb d) (bs) ∧ (∀ k, (Value.slice a (np - 1) c).ownBlock = some k → (Value.slice b nb d).ownBlock ≠ some k) ∧ Below w.heap.size w w' := by
  have HOw := hidP (fun W h' => ownPlan_any (some ⟨g, 0, none⟩) np np (some ⟨h, 0, none⟩) nb nb ps bs W hnp hnb (hP.later h') (hK.later h') hl hl')
  have HPO := hidP (fun W a c b d e1 e2 => iPlanOk_any a np c b nb d ps bs W hnp hnb e1 e2 (by omega) (by omega) hst)
  have HPk := hidP (iPrefixOk_any pt.s pt.H pt.L pt.b)
  change Hid (∀ w, Calls Try.prog 62 _ w fun e w' => e = .returned (.bool pt.pk) ∧ Below w.heap.size w w') at HPk
  have HPl := hidP (fun W a c b d e1 => placeOfPool_any pt a np c b nb d ps W hnp e1 (by omega))
  have HBI := hidP (fun W a c b d e2 => blocksIn_any pt a np c b nb d bs W hnb e2 hl')
  have HN := hidP (And.intro hnp hnb)
  clear hP hK hnp hnb hst
  rw [hr] at HPO
  rw [hk] at HPk
  rw [hp] at HPl
  rw [hu] at HBI
  have gi : decide ((i : Int) < 0) = false := decide_eq_false (by omega)
  have wi : IntKind.i64.wrap ((i : Int) + 1) = (i : Int) + 1 := by rw [IntKind.wrap_i64]; omega
  go_enter Try.func23, Try.ntmps23
  go_wp2_with fail
  have uF := frz2 w 32 (.slice (some ⟨g, 0, none⟩) np np) (.slice (some ⟨h, 0, none⟩) nb nb)
  obtain ⟨u0, u1⟩ := box2 (u := .slice (some ⟨g, 0, none⟩) np np) (v := .slice (some ⟨h, 0, none⟩) nb nb) w 32
  have uB := alloc_below w (.cells #[.slice (some ⟨g, 0, none⟩) np np, .slice (some ⟨h, 0, none⟩) nb nb] 32)
  have uL := alloc_lt w (.cells #[.slice (some ⟨g, 0, none⟩) np np, .slice (some ⟨h, 0, none⟩) nb nb] 32)
  have uS : (w.alloc (.cells #[.slice (some ⟨g, 0, none⟩) np np, .slice (some ⟨h, 0, none⟩) nb nb] 32)).heap.size = w.heap.size + 1 := by simp
  generalize w.alloc (.cells #[.slice (some ⟨g, 0, none⟩) np np, .slice (some ⟨h, 0, none⟩) nb nb] 32) = W1 at *
  obtain ⟨y0, y1, y2, y3⟩ := box4 (p := pt) W1 46
  have yB := alloc_below W1 (.cells #[.bool pt.s, .int .i64 pt.H.toInt, .int .i64 pt.L.toInt, .int .i64 pt.b] 46)
  have yL := alloc_lt W1 (.cells #[.bool pt.s, .int .i64 pt.H.toInt, .int .i64 pt.L.toInt, .int .i64 pt.b] 46)
  have yS : (W1.alloc (.cells #[.bool pt.s, .int .i64 pt.H.toInt, .int .i64 pt.L.toInt, .int .i64 pt.b] 46)).heap.size = W1.heap.size + 1 := by simp
  generalize W1.alloc (.cells #[.bool pt.s, .int .i64 pt.H.toInt, .int .i64 pt.L.toInt, .int .i64 pt.b] 46) = W2 at *
  rw [uS] at y0 y1 y2 y3 yL yS
  have kF := frz2 W2 32 (.slice none 0 0) (.slice none 0 0)
  obtain ⟨k0, k1⟩ := box2 (u := .slice none 0 0) (v := .slice none 0 0) W2 32
  have kB := alloc_below W2 (.cells #[.slice none 0 0, .slice none 0 0] 32)
  have kL := alloc_lt W2 (.cells #[.slice none 0 0, .slice none 0 0] 32)
  have kS : (W2.alloc (.cells #[.slice none 0 0, .slice none 0 0] 32)).heap.size = W2.heap.size + 1 := by simp
  generalize W2.alloc (.cells #[.slice none 0 0, .slice none 0 0] 32) = W3 at *
  rw [yS] at k0 k1 kL kS
  rw [yS] at kF
  have l0 : w.heap.size < W2.heap.size := by omega
  have l1 : w.heap.size + 1 < W2.heap.size := by omega
  have U0 := (kB.cell l0).trans ((yB.cell uL).trans u0)
  have U1 := (kB.cell l0).trans ((yB.cell uL).trans u1)
  have UF : ∀ o, W3.frozen? ⟨w.heap.size, o, none⟩ = false := fun o => (kB.frozen l0).trans ((yB.frozen uL).trans (uF o))
  have Y0 := (kB.cell l1).trans y0
  have Y1 := (kB.cell l1).trans y1
  have Y2 := (kB.cell l1).trans y2
  have Y3 := (kB.cell l1).trans y3
  have acc0 := hidP ((uB.trans (yB.mono uB.size)).trans (kB.mono (Nat.le_trans uB.size yB.size)))
  have UL : w.heap.size < W3.heap.size := by omega
  have YL : w.heap.size + 1 < W3.heap.size := by omega
  have kL3 : w.heap.size + 1 + 1 < W3.heap.size := by omega
  have UL9 := UL
  have kL9 := kL3
  clear uB yB kB uS yS kS u0 u1 y0 y1 y2 y3 uL yL kL uF l0 l1
  refine (HOw.out _ acc0.out).mono ?_
  rintro e w4 ⟨a, c, b, d, rfl, op, ob, hne, hb4⟩
  have pb0_w4 := (hb4.cell UL).trans U0
  have pb1_w4 := (hb4.cell UL).trans U1
  have pbF_w4 : ∀ o, w4.frozen? ⟨w.heap.size, o, none⟩ = false := fun o => (hb4.frozen UL).trans (UF o)
  have pbL_w4 : w.heap.size < w4.heap.size := Nat.lt_of_lt_of_le UL hb4.size
  have at0_w4 := (hb4.cell YL).trans Y0
  have at1_w4 := (hb4.cell YL).trans Y1
  have at2_w4 := (hb4.cell YL).trans Y2
  have at3_w4 := (hb4.cell YL).trans Y3
  have atL_w4 : w.heap.size + 1 < w4.heap.size := Nat.lt_of_lt_of_le YL hb4.size
  have rs0_w4 := (hb4.cell kL3).trans k0
  have rs1_w4 := (hb4.cell kL3).trans k1
  have rsF_w4 : ∀ o, w4.frozen? ⟨w.heap.size + 1 + 1, o, none⟩ = false := fun o => (hb4.frozen kL3).trans (kF o)
  have rsL_w4 : w.heap.size + 1 + 1 < w4.heap.size := Nat.lt_of_lt_of_le kL3 hb4.size
  have acc_w4 := hidP (acc0.out.trans (hb4.mono acc0.out.size))
  have oP_w4 := hidP op
  have oB_w4 := hidP ob
  have HNE := hidP hne
  clear UF U0 U1 UL Y0 Y1 Y2 Y3 YL kF k0 k1 kL3 acc0 hb4 op ob hne
  go_wp2_with fail
  have p0 : ((w4.setCell ⟨w.heap.size, 0, none⟩ (.slice a np c)).setCell ⟨w.heap.size, 1, none⟩ (.slice b nb d)).cell? ⟨w.heap.size, 0, none⟩ = some (.slice a np c) := by simp [go_sem, pb0_w4]
  have p1 : ((w4.setCell ⟨w.heap.size, 0, none⟩ (.slice a np c)).setCell ⟨w.heap.size, 1, none⟩ (.slice b nb d)).cell? ⟨w.heap.size, 1, none⟩ = some (.slice b nb d) := by simp [go_sem, pb1_w4]
  have pF : ∀ o, ((w4.setCell ⟨w.heap.size, 0, none⟩ (.slice a np c)).setCell ⟨w.heap.size, 1, none⟩ (.slice b nb d)).frozen? ⟨w.heap.size, o, none⟩ = false := fun o => by simp [go_sem, pbF_w4 o]
  have q0 : ((w4.setCell ⟨w.heap.size, 0, none⟩ (.slice a np c)).setCell ⟨w.heap.size, 1, none⟩ (.slice b nb d)).cell? ⟨w.heap.size + 1, 0, none⟩ = _ := cell_set2 at0_w4 (by omega)
  have q1 : ((w4.setCell ⟨w.heap.size, 0, none⟩ (.slice a np c)).setCell ⟨w.heap.size, 1, none⟩ (.slice b nb d)).cell? ⟨w.heap.size + 1, 1, none⟩ = _ := cell_set2 at1_w4 (by omega)
  have q2 : ((w4.setCell ⟨w.heap.size, 0, none⟩ (.slice a np c)).setCell ⟨w.heap.size, 1, none⟩ (.slice b nb d)).cell? ⟨w.heap.size + 1, 2, none⟩ = _ := cell_set2 at2_w4 (by omega)
  have q3 : ((w4.setCell ⟨w.heap.size, 0, none⟩ (.slice a np c)).setCell ⟨w.heap.size, 1, none⟩ (.slice b nb d)).cell? ⟨w.heap.size + 1, 3, none⟩ = _ := cell_set2 at3_w4 (by omega)
  have r0 : ((w4.setCell ⟨w.heap.size, 0, none⟩ (.slice a np c)).setCell ⟨w.heap.size, 1, none⟩ (.slice b nb d)).cell? ⟨w.heap.size + 1 + 1, 0, none⟩ = _ := cell_set2 rs0_w4 (by omega)
  have r1 : ((w4.setCell ⟨w.heap.size, 0, none⟩ (.slice a np c)).setCell ⟨w.heap.size, 1, none⟩ (.slice b nb d)).cell? ⟨w.heap.size + 1 + 1, 1, none⟩ = _ := cell_set2 rs1_w4 (by omega)
  have rF : ∀ o, ((w4.setCell ⟨w.heap.size, 0, none⟩ (.slice a np c)).setCell ⟨w.heap.size, 1, none⟩ (.slice b nb d)).frozen? ⟨w.heap.size + 1 + 1, o, none⟩ = false := fun o => frz_set2 (rsF_w4 o) (by omega)
  have oP5 : Hid (OwnG KPl 48 ((w4.setCell ⟨w.heap.size, 0, none⟩ (.slice a np c)).setCell ⟨w.heap.size, 1, none⟩ (.slice b nb d)) W3.heap.size (.slice a np c) ps) := hidP (OwnG.set2 oP_w4.out UL9)
  have oB5 : Hid (OwnG KBk 56 ((w4.setCell ⟨w.heap.size, 0, none⟩ (.slice a np c)).setCell ⟨w.heap.size, 1, none⟩ (.slice b nb d)) W3.heap.size (.slice b nb d) bs) := hidP (OwnG.set2 oB_w4.out UL9)
  have acc5 : Hid (Below w.heap.size w ((w4.setCell ⟨w.heap.size, 0, none⟩ (.slice a np c)).setCell ⟨w.heap.size, 1, none⟩ (.slice b nb d))) := hidP (below_set2 acc_w4.out (Nat.le_refl _))
  have sL5 : ((w4.setCell ⟨w.heap.size, 0, none⟩ (.slice a np c)).setCell ⟨w.heap.size, 1, none⟩ (.slice b nb d)).heap.size = w4.heap.size := by simp
  generalize ((w4.setCell ⟨w.heap.size, 0, none⟩ (.slice a np c)).setCell ⟨w.heap.size, 1, none⟩ (.slice b nb d)) = W5 at *
  have pL5 : w.heap.size < W5.heap.size := by have := pbL_w4; omega
  have qL5 : w.heap.size + 1 < W5.heap.size := by have := atL_w4; omega
  have rL5 : w.heap.size + 1 + 1 < W5.heap.size := by have := rsL_w4; omega
  clear pb0_w4 pb1_w4 pbL_w4 at0_w4 at1_w4 at2_w4 at3_w4 atL_w4 rs0_w4 rs1_w4 rsL_w4 pbF_w4 rsF_w4 oP_w4 oB_w4 acc_w4 sL5
  refine (HPO.out _ a c b d oP5.out.row oB5.out.row).mono ?_
  rintro e w6 ⟨rfl, hb6⟩
  have pb0_w6 := (hb6.cell pL5).trans p0
  have pb1_w6 := (hb6.cell pL5).trans p1
  have pbF_w6 : ∀ o, w6.frozen? ⟨w.heap.size, o, none⟩ = false := fun o => (hb6.frozen pL5).trans (pF o)
  have pbL_w6 : w.heap.size < w6.heap.size := Nat.lt_of_lt_of_le pL5 hb6.size
  have at0_w6 := (hb6.cell qL5).trans q0
  have at1_w6 := (hb6.cell qL5).trans q1
  have at2_w6 := (hb6.cell qL5).trans q2
  have at3_w6 := (hb6.cell qL5).trans q3
  have atL_w6 : w.heap.size + 1 < w6.heap.size := Nat.lt_of_lt_of_le qL5 hb6.size
  have rs0_w6 := (hb6.cell rL5).trans r0
  have rs1_w6 := (hb6.cell rL5).trans r1
  have rsF_w6 : ∀ o, w6.frozen? ⟨w.heap.size + 1 + 1, o, none⟩ = false := fun o => (hb6.frozen rL5).trans (rF o)
  have rsL_w6 : w.heap.size + 1 + 1 < w6.heap.size := Nat.lt_of_lt_of_le rL5 hb6.size
  have oP_w6 := hidP (OwnG.later oP5.out hb6)
  have oB_w6 := hidP (OwnG.later oB5.out hb6)
  have acc_w6 := hidP (acc5.out.trans (hb6.mono acc5.out.size))
  clear pF p0 p1 pL5 q0 q1 q2 q3 qL5 rF r0 r1 rL5 oP5 oB5 acc5 hb6
  go_wp2_with fail
  refine (HPk.out _).mono ?_
  rintro e w7 ⟨rfl, hb7⟩
  have pb0_w7 := (hb7.cell pbL_w6).trans pb0_w6
  have pb1_w7 := (hb7.cell pbL_w6).trans pb1_w6
  have pbF_w7 : ∀ o, w7.frozen? ⟨w.heap.size, o, none⟩ = false := fun o => (hb7.frozen pbL_w6).trans (pbF_w6 o)
  have pbL_w7 : w.heap.size < w7.heap.size := Nat.lt_of_lt_of_le pbL_w6 hb7.size
  have at0_w7 := (hb7.cell atL_w6).trans at0_w6
  have at1_w7 := (hb7.cell atL_w6).trans at1_w6
  have at2_w7 := (hb7.cell atL_w6).trans at2_w6
  have at3_w7 := (hb7.cell atL_w6).trans at3_w6
  have atL_w7 : w.heap.size + 1 < w7.heap.size := Nat.lt_of_lt_of_le atL_w6 hb7.size
  have rs0_w7 := (hb7.cell rsL_w6).trans rs0_w6
  have rs1_w7 := (hb7.cell rsL_w6).trans rs1_w6
  have rsF_w7 : ∀ o, w7.frozen? ⟨w.heap.size + 1 + 1, o, none⟩ = false := fun o => (hb7.frozen rsL_w6).trans (rsF_w6 o)
  have rsL_w7 : w.heap.size + 1 + 1 < w7.heap.size := Nat.lt_of_lt_of_le rsL_w6 hb7.size
  have oP_w7 := hidP (OwnG.later oP_w6.out hb7)
  have oB_w7 := hidP (OwnG.later oB_w6.out hb7)
  have acc_w7 := hidP (acc_w6.out.trans (hb7.mono acc_w6.out.size))
  clear pbF_w6 pb0_w6 pb1_w6 pbL_w6 at0_w6 at1_w6 at2_w6 at3_w6 atL_w6 rsF_w6 rs0_w6 rs1_w6 rsL_w6 oP_w6 oB_w6 acc_w6 hb7
  go_wp2_with fail
  refine (HPl.out _ a c b d oP_w7.out.row).mono ?_
  rintro e w8 ⟨rfl, hb8⟩
  have pb0_w8 := (hb8.cell pbL_w7).trans pb0_w7
  have pb1_w8 := (hb8.cell pbL_w7).trans pb1_w7
  have pbF_w8 : ∀ o, w8.frozen? ⟨w.heap.size, o, none⟩ = false := fun o => (hb8.frozen pbL_w7).trans (pbF_w7 o)
  have pbL_w8 : w.heap.size < w8.heap.size := Nat.lt_of_lt_of_le pbL_w7 hb8.size
  have at0_w8 := (hb8.cell atL_w7).trans at0_w7
  have at1_w8 := (hb8.cell atL_w7).trans at1_w7
  have at2_w8 := (hb8.cell atL_w7).trans at2_w7
  have at3_w8 := (hb8.cell atL_w7).trans at3_w7
  have atL_w8 : w.heap.size + 1 < w8.heap.size := Nat.lt_of_lt_of_le atL_w7 hb8.size
  have rs0_w8 := (hb8.cell rsL_w7).trans rs0_w7
  have rs1_w8 := (hb8.cell rsL_w7).trans rs1_w7
  have rsF_w8 : ∀ o, w8.frozen? ⟨w.heap.size + 1 + 1, o, none⟩ = false := fun o => (hb8.frozen rsL_w7).trans (rsF_w7 o)
  have rsL_w8 : w.heap.size + 1 + 1 < w8.heap.size := Nat.lt_of_lt_of_le rsL_w7 hb8.size
  have oP_w8 := hidP (OwnG.later oP_w7.out hb8)
  have oB_w8 := hidP (OwnG.later oB_w7.out hb8)
  have acc_w8 := hidP (acc_w7.out.trans (hb8.mono acc_w7.out.size))
  clear pbF_w7 pb0_w7 pb1_w7 pbL_w7 at0_w7 at1_w7 at2_w7 at3_w7 atL_w7 rsF_w7 rs0_w7 rs1_w7 rsL_w7 oP_w7 oB_w7 acc_w7 hb8
  go_wp2_with fail
  refine (HBI.out _ a c b d oB_w8.out.row).mono ?_
  rintro e w9 ⟨a9, c9, rfl, _, hb9⟩
  have pb0_w9 := (hb9.cell pbL_w8).trans pb0_w8
  have pb1_w9 := (hb9.cell pbL_w8).trans pb1_w8
  have pbF_w9 : ∀ o, w9.frozen? ⟨w.heap.size, o, none⟩ = false := fun o => (hb9.frozen pbL_w8).trans (pbF_w8 o)
  have pbL_w9 : w.heap.size < w9.heap.size := Nat.lt_of_lt_of_le pbL_w8 hb9.size
  have at0_w9 := (hb9.cell atL_w8).trans at0_w8
  have at1_w9 := (hb9.cell atL_w8).trans at1_w8
  have at2_w9 := (hb9.cell atL_w8).trans at2_w8
  have at3_w9 := (hb9.cell atL_w8).trans at3_w8
  have atL_w9 : w.heap.size + 1 < w9.heap.size := Nat.lt_of_lt_of_le atL_w8 hb9.size
  have rs0_w9 := (hb9.cell rsL_w8).trans rs0_w8
  have rs1_w9 := (hb9.cell rsL_w8).trans rs1_w8
  have rsF_w9 : ∀ o, w9.frozen? ⟨w.heap.size + 1 + 1, o, none⟩ = false := fun o => (hb9.frozen rsL_w8).trans (rsF_w8 o)
  have rsL_w9 : w.heap.size + 1 + 1 < w9.heap.size := Nat.lt_of_lt_of_le rsL_w8 hb9.size
  have oP_w9 := hidP (OwnG.later oP_w8.out hb9)
  have oB_w9 := hidP (OwnG.later oB_w8.out hb9)
  have acc_w9 := hidP (acc_w8.out.trans (hb9.mono acc_w8.out.size))
  clear pbF_w8 pb0_w8 pb1_w8 pbL_w8 at0_w8 at1_w8 at2_w8 at3_w8 atL_w8 rsF_w8 rs0_w8 rs1_w8 rsL_w8 oP_w8 oB_w8 acc_w8 hb9
  obtain ⟨gg, rfl⟩ : ∃ gg, a = some ⟨gg, 0, none⟩ := by
    rcases oP_w9.out.2 with ⟨hv, _⟩ | ⟨gg, cap', cur, hv, _⟩
    · simp at hv; omega
    · simp at hv; exact ⟨gg, hv.1⟩
  go_wp2_with fail
  refine (delete_any gg np c W3.heap.size i ps w9 HN.out.1 hi hl oP_w9.out).mono ?_
  rintro e w10 ⟨rfl, o10, g10⟩
  have lg := OwnG.lt oP_w9.out gg rfl
  have pb0_w10 := (World.cell?_of_block (g10.block (w.heap.size) pbL_w9 (fun e => by simp at e; omega))).trans pb0_w9
  have pb1_w10 := (World.cell?_of_block (g10.block (w.heap.size) pbL_w9 (fun e => by simp at e; omega))).trans pb1_w9
  have pbF_w10 : ∀ o, w10.frozen? ⟨w.heap.size, o, none⟩ = false := fun o => (World.frozen?_of_block (g10.block (w.heap.size) pbL_w9 (fun e => by simp at e; omega))).trans (pbF_w9 o)
  have pbL_w10 : w.heap.size < w10.heap.size := Nat.lt_of_lt_of_le pbL_w9 g10.size
  have at0_w10 := (World.cell?_of_block (g10.block (w.heap.size + 1) atL_w9 (fun e => by simp at e; omega))).trans at0_w9
  have at1_w10 := (World.cell?_of_block (g10.block (w.heap.size + 1) atL_w9 (fun e => by simp at e; omega))).trans at1_w9
  have at2_w10 := (World.cell?_of_block (g10.block (w.heap.size + 1) atL_w9 (fun e => by simp at e; omega))).trans at2_w9
  have at3_w10 := (World.cell?_of_block (g10.block (w.heap.size + 1) atL_w9 (fun e => by simp at e; omega))).trans at3_w9
  have atL_w10 : w.heap.size + 1 < w10.heap.size := Nat.lt_of_lt_of_le atL_w9 g10.size
  have rs0_w10 := (World.cell?_of_block (g10.block (w.heap.size + 1 + 1) rsL_w9 (fun e => by simp at e; omega))).trans rs0_w9
  have rs1_w10 := (World.cell?_of_block (g10.block (w.heap.size + 1 + 1) rsL_w9 (fun e => by simp at e; omega))).trans rs1_w9
  have rsF_w10 : ∀ o, w10.frozen? ⟨w.heap.size + 1 + 1, o, none⟩ = false := fun o => (World.frozen?_of_block (g10.block (w.heap.size + 1 + 1) rsL_w9 (fun e => by simp at e; omega))).trans (rsF_w9 o)
  have rsL_w10 : w.heap.size + 1 + 1 < w10.heap.size := Nat.lt_of_lt_of_le rsL_w9 g10.size
  have oB_w10 := hidP (OwnG.grown oB_w9.out g10 (fun j hj e => HNE.out gg rfl (by rw [hj]; exact e.symm)))
  have oP_w10 := hidP o10
  have acc_w10 := hidP (acc_w9.out.grown g10 acc_w9.out.size (fun j e => by simp at e; omega))
  have LG := hidP lg
  clear pb0_w9 pb1_w9 pbL_w9 at0_w9 at1_w9 at2_w9 at3_w9 atL_w9 rs0_w9 rs1_w9 rsL_w9 pbF_w9 rsF_w9 oP_w9 oB_w9 acc_w9 o10 g10 lg
  go_wp2_with fail
  refine bodyPost_ret (v := .tuple #[.agg #[.slice (some ⟨gg, 0, none⟩) (np - 1) c, .slice b nb d], .int .i64 0]) (by simp [results, Try.results23, go_sem, rs0_w10, rs1_w10]) rfl ⟨_, _, _, _, rfl, (OwnG.set2 (OwnG.set1 oP_w10.out UL9) kL9).mono (Nat.le_of_lt UL9), (OwnG.set2 (OwnG.set1 oB_w10.out UL9) kL9).mono (Nat.le_of_lt UL9), (fun k h1 h2 => HNE.out k h1 h2), below_set2 (below_set1 acc_w10.out (Nat.le_refl _)) (by omega)⟩

end Go.Proofs.Ythbpehpnikknlaa

namespace Go.Proofs.Ythbpehpnikknlaa
open Go.RowKit

theorem OwnG.drewG {α : Type} {K : Kd α} {t : TypeId} {w : World} {B : Nat} {v : Value} {ps : List α} (h : OwnG K t w B v ps) : OwnG K t w.drew B v ps := OwnG.later h (Below.refl _ _).drew
theorem ob_some (p n c : Nat) : (Value.slice (some ⟨p, 0, none⟩) n c).ownBlock = some p := rfl

set_option maxRecDepth 10000 in
set_option maxHeartbeats 4000000 in
theorem l5Copy_any (ap : Option Addr) (np cp : Nat) (ab : Option Addr) (nb cb : Nat) (ps : List Pl) (bs : List Bk) (w : World) (hnp : np = ps.length) (hnb : nb = bs.length) (hP : RowG KPl w ap ps) (hK : RowG KBk w ab bs) (hcp : ap = none → cp = 0) (hcb : ab = none → cb = 0) (hl : np ≤ 1048576) (hl' : nb ≤ 1048576) :
    Calls Try.prog 48 #[.agg #[.slice ap np cp, .slice ab nb cb]] w fun e w' => ∃ a c b d, e = .returned (.agg #[.slice a np c, .slice b nb d]) ∧ OwnG KPl 48 w' w.heap.size (.slice a np c) ps ∧ OwnG KBk 56 w' w.heap.size (.slice b nb d) bs ∧ (∀ k, (Value.slice a np c).ownBlock = some k → (Value.slice b nb d).ownBlock ≠ some k) ∧ Below w.heap.size w w' := by
  have HR := hidP (And.intro hP hK)
  have HN := hidP (And.intro hnp hnb)
  have HC := hidP (And.intro hcp hcb)
  clear hP hK hnp hnb hcp hcb
  go_enter Try.func48, Try.ntmps48
  go_wp2_with fail
  obtain ⟨u0, u1⟩ := box2 (u := .slice ap np cp) (v := .slice ab nb cb) w 32
  have uB := alloc_below w (.cells #[.slice ap np cp, .slice ab nb cb] 32)
  have uL := alloc_lt w (.cells #[.slice ap np cp, .slice ab nb cb] 32)
  have uS : (w.alloc (.cells #[.slice ap np cp, .slice ab nb cb] 32)).heap.size = w.heap.size + 1 := by simp
  generalize w.alloc (.cells #[.slice ap np cp, .slice ab nb cb] 32) = W1 at *
  have yF := frz2 W1 32 (.slice none 0 0) (.slice none 0 0)
  obtain ⟨y0, y1⟩ := box2 (u := .slice none 0 0) (v := .slice none 0 0) W1 32
  have yB := alloc_below W1 (.cells #[.slice none 0 0, .slice none 0 0] 32)
  have yL := alloc_lt W1 (.cells #[.slice none 0 0, .slice none 0 0] 32)
  have yS : (W1.alloc (.cells #[.slice none 0 0, .slice none 0 0] 32)).heap.size = W1.heap.size + 1 := by simp
  generalize W1.alloc (.cells #[.slice none 0 0, .slice none 0 0] 32) = W2 at *
  rw [uS] at y0 y1 yL yS
  rw [uS] at yF
  have HU := hidP uB
  have HY := hidP yB
  have hs1 : W1.heap.size = w.heap.size + 1 := uS
  have hs2 : W2.heap.size = w.heap.size + 1 + 1 := yS
  have HS12 := hidP (And.intro hs1 hs2)
  clear uB yB uS yS hs1 hs2
  have HSx : Hid (∀ x, Below W1.heap.size W1 x → (x.cell? ⟨w.heap.size, 0, none⟩ = some (.slice ap np cp) ∧ x.cell? ⟨w.heap.size, 1, none⟩ = some (.slice ab nb cb) ∧ Below W1.heap.size W1 x)) := hidP fun x h =>
    ⟨(h.cell uL).trans u0, (h.cell uL).trans u1, h⟩
  refine wp_region_held_drew (S := (fun x => x.cell? ⟨w.heap.size, 0, none⟩ = some (.slice ap np cp) ∧ x.cell? ⟨w.heap.size, 1, none⟩ = some (.slice ab nb cb) ∧ Below W1.heap.size W1 x)) (by kernel_rfl) ?_ (fun hHeld => ?_)
  · try dsimp only
    exact HSx.out _ HY.out.drew
  refine wpAnyH_take (i := 1) (oi := ⟨some 4, _, _, _, _, _⟩) (v := ?_) rfl (by kernel_rfl) (by kernel_rfl) (by kernel_rfl) (fun _ _ _ h => h) (Or.inl ⟨by rfl, ?_⟩) (by assumption) ?_
  rotate_left
  · intro w hSw
    try dsimp only at hSw
    go_simp
    try with_reducible rfl
  simp only [Act.put, List.setIfInBounds_toArray, List.set_cons_zero, List.set_cons_succ]
  refine wpAnyH_take (i := 2) (oi := ⟨some 5, _, _, _, _, _⟩) (v := ?_) rfl (by kernel_rfl) (by kernel_rfl) (by kernel_rfl) (fun _ _ _ h => h) (Or.inl ⟨by rfl, ?_⟩) (by assumption) ?_
  rotate_left
  · intro w hSw
    try dsimp only at hSw
    go_simp
    try with_reducible rfl
  simp only [Act.put, List.setIfInBounds_toArray, List.set_cons_zero, List.set_cons_succ]
  refine wpAnyH_take (i := 5) (oi := ⟨some 8, _, _, _, _, _⟩) (v := ?_) rfl (by kernel_rfl) (by kernel_rfl) (by kernel_rfl) (fun _ _ _ h => h) (Or.inl ⟨by rfl, ?_⟩) (by assumption) ?_
  rotate_left
  · intro w hSw
    try dsimp only at hSw
    go_simp
    try with_reducible rfl
  simp only [Act.put, List.setIfInBounds_toArray, List.set_cons_zero, List.set_cons_succ]
  refine wpAnyH_take (i := 6) (oi := ⟨some 9, _, _, _, _, _⟩) (v := ?_) rfl (by kernel_rfl) (by kernel_rfl) (by kernel_rfl) (fun _ _ _ h => h) (Or.inl ⟨by rfl, ?_⟩) (by assumption) ?_
  rotate_left
  · intro w hSw
    try dsimp only at hSw
    go_simp
    try with_reducible rfl
  simp only [Act.put, List.setIfInBounds_toArray, List.set_cons_zero, List.set_cons_succ]
  refine wpAnyH_ready (rs := [0, 4]) (by kernel_rfl) (by simp) ?_
  refine AllReadyH.cons rfl (fun K hK => ?_) (AllReadyH.cons rfl (fun K hK => ?_) AllReadyH.nil)
  · go_simp
    have z3 := own_zeroG KPl W2 W2.heap.size 48 (Nat.le_refl _)
    have zb3 := alloc_below W2 (.cells #[] 48)
    have zs3 : W2.heap.size + 1 ≤ (W2.alloc (.cells #[] 48)).heap.size := by simp
    have z3 := OwnG.drewG z3
    have zb3 := zb3.drew
    have zs3 : W2.heap.size + 1 ≤ (W2.alloc (.cells #[] 48)).drew.heap.size := zs3
    have bel3 := HY.out.trans (zb3.mono HY.out.size)
    generalize (W2.alloc (.cells #[] 48)).drew = w3 at *
    have wb3 := zb3
    refine hK.out _ _ ?_ (fun hHeld => ?_)
    · try dsimp only
      exact HSx.out _ bel3
    clear hK K
    refine wpAnyH_ready (rs := [3, 4]) (by kernel_rfl) (by simp) ?_
    refine AllReadyH.cons rfl (fun K hK => ?_) (AllReadyH.cons rfl (fun K hK => ?_) AllReadyH.nil)
    · have hbs4 : W2.heap.size ≤ w3.heap.size := by omega
      refine step_appG Try.tyPl _ rfl (.tmp 3) (.tmp 5) 29 rfl (W2.heap.size) (some ⟨W2.heap.size, 0, none⟩) 0 0 np [] ps (.slice ap np cp) rfl rfl HN.out.1 z3 rfl (src_rowG Try.tyPl.1 np cp (by show 0 < 5; omega) HN.out.1 (HR.out.1.later (HU.out.trans (bel3.mono HU.out.size))) HC.out.1) (by omega) hbs4 ?_
      intro a4 c4 w4 ho4 hg4 ht4
      have zs4 := hg4.size
      have bel4 := Below.grown bel3 hg4 bel3.size (fun j hj => by rw [ob_some, Option.some.injEq] at hj; have := HS12.out; omega)
      rw [Nat.zero_add, List.nil_append] at ho4
      have lt4 := fun j hj => (OwnG.lt ho4 j hj).2
      have wb4 := Below.grown wb3 hg4 wb3.size (fun j hj => by rw [ob_some, Option.some.injEq] at hj; omega)
      refine hK.out _ _ ?_ (fun hHeld => ?_)
      · try dsimp only
        exact HSx.out _ bel4
      clear hK K
      refine wpAnyH_ready (rs := [4]) (by kernel_rfl) (by simp) ?_
      refine AllReadyH.cons rfl (fun K hK => ?_) AllReadyH.nil
      go_simp
      have z5 := own_zeroG KBk w4 w4.heap.size 56 (Nat.le_refl _)
      have zb5 := alloc_below w4 (.cells #[] 56)
      have zs5 : w4.heap.size + 1 ≤ (w4.alloc (.cells #[] 56)).heap.size := by simp
      have bel5 := bel4.trans (zb5.mono bel4.size)
      generalize w4.alloc (.cells #[] 56) = w5 at *
      have oP5 := OwnG.later ho4 zb5
      have wb5 := wb4.trans (zb5.mono wb4.size)
      refine hK.out _ _ ?_ (fun hHeld => ?_)
      · try dsimp only
        exact HSx.out _ bel5
      clear hK K
      refine wpAnyH_ready (rs := [7]) (by kernel_rfl) (by simp) ?_
      refine AllReadyH.cons rfl (fun K hK => ?_) AllReadyH.nil
      have hbs6 : w4.heap.size ≤ w5.heap.size := by omega
      refine step_appG Try.tyBk _ rfl (.tmp 7) (.tmp 9) 30 rfl (w4.heap.size) (some ⟨w4.heap.size, 0, none⟩) 0 0 nb [] bs (.slice ab nb cb) rfl rfl HN.out.2 z5 rfl (src_rowG Try.tyBk.1 nb cb (by show 0 < 5; omega) HN.out.2 (HR.out.2.later (HU.out.trans (bel5.mono HU.out.size))) HC.out.2) (by omega) hbs6 ?_
      intro a6 c6 w6 ho6 hg6 ht6
      have zs6 := hg6.size
      have bel6 := Below.grown bel5 hg6 bel5.size (fun j hj => by rw [ob_some, Option.some.injEq] at hj; have := HS12.out; omega)
      have oP6 := OwnG.grown oP5 hg6 (fun j hj he => by have h7 := lt4 j hj; rw [ob_some, Option.some.injEq] at he; rcases ht4 with rfl | rfl <;> rw [ob_some, Option.some.injEq] at hj <;> omega)
      rw [Nat.zero_add, List.nil_append] at ho6
      have lt6 := fun j hj => (OwnG.lt ho6 j hj).2
      have wb6 := Below.grown wb5 hg6 wb5.size (fun j hj => by rw [ob_some, Option.some.injEq] at hj; omega)
      refine hK.out _ _ ?_ (fun hHeld => ?_)
      · try dsimp only
        exact HSx.out _ bel6
      clear hK K
      refine wpAnyH_take (i := 8) (oi := ⟨some 11, _, _, _, _, _⟩) (v := ?_) rfl (by kernel_rfl) (by kernel_rfl) (by kernel_rfl) (fun _ _ _ h => h) (Or.inl ⟨by rfl, ?_⟩) (by assumption) ?_
      rotate_left
      · intro w hSw
        try dsimp only at hSw
        go_simp
        try with_reducible rfl
      simp only [Act.put, List.setIfInBounds_toArray]
      refine wpAnyH_ready (rs := [9]) (by kernel_rfl) (by simp) ?_
      refine AllReadyH.cons rfl (fun K hK => ?_) AllReadyH.nil
      have zz : w.heap.size + 1 < w6.heap.size := by have := HS12.out; omega
      have r0 := (wb6.cell yL).trans y0
      have r1 := (wb6.cell yL).trans y1
      have rF : ∀ o, w6.frozen? ⟨w.heap.size + 1, o, none⟩ = false := fun o => (wb6.frozen yL).trans (yF o)
      go_simp
      refine hK.out _ _ ?_ (fun hHeld => ?_)
      · try dsimp only
        refine HSx.out _ ?_
        repeat (with_reducible refine Below.setCell ?_ ?_ _; rotate_left; (focus (have := HS12.out; simp; omega)))
        exact bel6
      clear hK K
      refine wpAnyH_done (by kernel_rfl) ?_ _
      clear hHeld
      go_wp2_with fail
      refine bodyPost_ret (v := .agg #[.slice a4 np c4, .slice a6 nb c6]) (by simp [results, Try.results48, go_sem, r0, r1]) rfl ⟨a4, c4, a6, c6, rfl, ?_, ?_, ?_, ?_⟩
      · have o1 := OwnG.grown oP6 (grown_cellG w6 (w.heap.size + 1) 0 (.slice a4 np c4)) (fun k hk e => by have h5 := (OwnG.lt oP6 k hk).1; have h6 := HS12.out; simp at e; omega)
        have o2 := OwnG.grown o1 (grown_cellG _ (w.heap.size + 1) 1 (.slice a6 nb c6)) (fun k hk e => by have h5 := (OwnG.lt oP6 k hk).1; have h6 := HS12.out; simp at e; omega)
        exact o2.mono (by have := HS12.out; omega)
      · have o1 := OwnG.grown ho6 (grown_cellG w6 (w.heap.size + 1) 0 (.slice a4 np c4)) (fun k hk e => by have h5 := (OwnG.lt ho6 k hk).1; have h6 := HS12.out; simp at e; omega)
        have o2 := OwnG.grown o1 (grown_cellG _ (w.heap.size + 1) 1 (.slice a6 nb c6)) (fun k hk e => by have h5 := (OwnG.lt ho6 k hk).1; have h6 := HS12.out; simp at e; omega)
        exact o2.mono (by have := HS12.out; omega)
      · intro k h1 h2
        have h7 := lt4 k h1
        have h8 := lt6 k h2
        rcases ht4 with rfl | rfl <;> rcases ht6 with rfl | rfl <;> rw [ob_some, Option.some.injEq] at h1 h2 <;> omega
      · refine HU.out.trans (Below.mono ?_ HU.out.size)
        repeat (with_reducible refine Below.setCell ?_ ?_ _; rotate_left; (focus (have := HS12.out; simp; omega)))
        exact bel6
    · go_simp
      have z4 := own_zeroG KBk w3 w3.heap.size 56 (Nat.le_refl _)
      have zb4 := alloc_below w3 (.cells #[] 56)
      have zs4 : w3.heap.size + 1 ≤ (w3.alloc (.cells #[] 56)).heap.size := by simp
      have bel4 := bel3.trans (zb4.mono bel3.size)
      generalize w3.alloc (.cells #[] 56) = w4 at *
      have oP4 := OwnG.later z3 zb4
      have wb4 := wb3.trans (zb4.mono wb3.size)
      refine hK.out _ _ ?_ (fun hHeld => ?_)
      · try dsimp only
        exact HSx.out _ bel4
      clear hK K
      refine wpAnyH_ready (rs := [3]) (by kernel_rfl) (by simp) ?_
      refine AllReadyH.cons rfl (fun K hK => ?_) AllReadyH.nil
      have hbs5 : W2.heap.size ≤ w4.heap.size := by omega
      refine step_appG Try.tyPl _ rfl (.tmp 3) (.tmp 5) 29 rfl (W2.heap.size) (some ⟨W2.heap.size, 0, none⟩) 0 0 np [] ps (.slice ap np cp) rfl rfl HN.out.1 oP4 rfl (src_rowG Try.tyPl.1 np cp (by show 0 < 5; omega) HN.out.1 (HR.out.1.later (HU.out.trans (bel4.mono HU.out.size))) HC.out.1) (by omega) hbs5 ?_
      intro a5 c5 w5 ho5 hg5 ht5
      have zs5 := hg5.size
      have bel5 := Below.grown bel4 hg5 bel4.size (fun j hj => by rw [ob_some, Option.some.injEq] at hj; have := HS12.out; omega)
      have oB5 := OwnG.grown z4 hg5 (fun j hj he => by rw [ob_some, Option.some.injEq] at hj he; omega)
      rw [Nat.zero_add, List.nil_append] at ho5
      have lt5 := fun j hj => (OwnG.lt ho5 j hj).2
      have wb5 := Below.grown wb4 hg5 wb4.size (fun j hj => by rw [ob_some, Option.some.injEq] at hj; omega)
      refine hK.out _ _ ?_ (fun hHeld => ?_)
      · try dsimp only
        exact HSx.out _ bel5
      clear hK K
      refine wpAnyH_ready (rs := [7]) (by kernel_rfl) (by simp) ?_
      refine AllReadyH.cons rfl (fun K hK => ?_) AllReadyH.nil
      have hbs6 : w3.heap.size ≤ w5.heap.size := by omega
      refine step_appG Try.tyBk _ rfl (.tmp 7) (.tmp 9) 30 rfl (w3.heap.size) (some ⟨w3.heap.size, 0, none⟩) 0 0 nb [] bs (.slice ab nb cb) rfl rfl HN.out.2 oB5 rfl (src_rowG Try.tyBk.1 nb cb (by show 0 < 5; omega) HN.out.2 (HR.out.2.later (HU.out.trans (bel5.mono HU.out.size))) HC.out.2) (by omega) hbs6 ?_
      intro a6 c6 w6 ho6 hg6 ht6
      have zs6 := hg6.size
      have bel6 := Below.grown bel5 hg6 bel5.size (fun j hj => by rw [ob_some, Option.some.injEq] at hj; have := HS12.out; omega)
      have oP6 := OwnG.grown ho5 hg6 (fun j hj he => by have h7 := lt5 j hj; rw [ob_some, Option.some.injEq] at he; rcases ht5 with rfl | rfl <;> rw [ob_some, Option.some.injEq] at hj <;> omega)
      rw [Nat.zero_add, List.nil_append] at ho6
      have lt6 := fun j hj => (OwnG.lt ho6 j hj).2
      have wb6 := Below.grown wb5 hg6 wb5.size (fun j hj => by rw [ob_some, Option.some.injEq] at hj; omega)
      refine hK.out _ _ ?_ (fun hHeld => ?_)
      · try dsimp only
        exact HSx.out _ bel6
      clear hK K
      refine wpAnyH_take (i := 8) (oi := ⟨some 11, _, _, _, _, _⟩) (v := ?_) rfl (by kernel_rfl) (by kernel_rfl) (by kernel_rfl) (fun _ _ _ h => h) (Or.inl ⟨by rfl, ?_⟩) (by assumption) ?_
      rotate_left
      · intro w hSw
        try dsimp only at hSw
        go_simp
        try with_reducible rfl
      simp only [Act.put, List.setIfInBounds_toArray]
      refine wpAnyH_ready (rs := [9]) (by kernel_rfl) (by simp) ?_
      refine AllReadyH.cons rfl (fun K hK => ?_) AllReadyH.nil
      have zz : w.heap.size + 1 < w6.heap.size := by have := HS12.out; omega
      have r0 := (wb6.cell yL).trans y0
      have r1 := (wb6.cell yL).trans y1
      have rF : ∀ o, w6.frozen? ⟨w.heap.size + 1, o, none⟩ = false := fun o => (wb6.frozen yL).trans (yF o)
      go_simp
      refine hK.out _ _ ?_ (fun hHeld => ?_)
      · try dsimp only
        refine HSx.out _ ?_
        repeat (with_reducible refine Below.setCell ?_ ?_ _; rotate_left; (focus (have := HS12.out; simp; omega)))
        exact bel6
      clear hK K
      refine wpAnyH_done (by kernel_rfl) ?_ _
      clear hHeld
      go_wp2_with fail
      refine bodyPost_ret (v := .agg #[.slice a5 np c5, .slice a6 nb c6]) (by simp [results, Try.results48, go_sem, r0, r1]) rfl ⟨a5, c5, a6, c6, rfl, ?_, ?_, ?_, ?_⟩
      · have o1 := OwnG.grown oP6 (grown_cellG w6 (w.heap.size + 1) 0 (.slice a5 np c5)) (fun k hk e => by have h5 := (OwnG.lt oP6 k hk).1; have h6 := HS12.out; simp at e; omega)
        have o2 := OwnG.grown o1 (grown_cellG _ (w.heap.size + 1) 1 (.slice a6 nb c6)) (fun k hk e => by have h5 := (OwnG.lt oP6 k hk).1; have h6 := HS12.out; simp at e; omega)
        exact o2.mono (by have := HS12.out; omega)
      · have o1 := OwnG.grown ho6 (grown_cellG w6 (w.heap.size + 1) 0 (.slice a5 np c5)) (fun k hk e => by have h5 := (OwnG.lt ho6 k hk).1; have h6 := HS12.out; simp at e; omega)
        have o2 := OwnG.grown o1 (grown_cellG _ (w.heap.size + 1) 1 (.slice a6 nb c6)) (fun k hk e => by have h5 := (OwnG.lt ho6 k hk).1; have h6 := HS12.out; simp at e; omega)
        exact o2.mono (by have := HS12.out; omega)
      · intro k h1 h2
        have h7 := lt5 k h1
        have h8 := lt6 k h2
        rcases ht5 with rfl | rfl <;> rcases ht6 with rfl | rfl <;> rw [ob_some, Option.some.injEq] at h1 h2 <;> omega
      · refine HU.out.trans (Below.mono ?_ HU.out.size)
        repeat (with_reducible refine Below.setCell ?_ ?_ _; rotate_left; (focus (have := HS12.out; simp; omega)))
        exact bel6
  · go_simp
    have z3 := own_zeroG KBk W2 W2.heap.size 56 (Nat.le_refl _)
    have zb3 := alloc_below W2 (.cells #[] 56)
    have zs3 : W2.heap.size + 1 ≤ (W2.alloc (.cells #[] 56)).heap.size := by simp
    have z3 := OwnG.drewG z3
    have zb3 := zb3.drew
    have zs3 : W2.heap.size + 1 ≤ (W2.alloc (.cells #[] 56)).drew.heap.size := zs3
    have bel3 := HY.out.trans (zb3.mono HY.out.size)
    generalize (W2.alloc (.cells #[] 56)).drew = w3 at *
    have wb3 := zb3
    refine hK.out _ _ ?_ (fun hHeld => ?_)
    · try dsimp only
      exact HSx.out _ bel3
    clear hK K
    refine wpAnyH_ready (rs := [0]) (by kernel_rfl) (by simp) ?_
    refine AllReadyH.cons rfl (fun K hK => ?_) AllReadyH.nil
    go_simp
    have z4 := own_zeroG KPl w3 w3.heap.size 48 (Nat.le_refl _)
    have zb4 := alloc_below w3 (.cells #[] 48)
    have zs4 : w3.heap.size + 1 ≤ (w3.alloc (.cells #[] 48)).heap.size := by simp
    have bel4 := bel3.trans (zb4.mono bel3.size)
    generalize w3.alloc (.cells #[] 48) = w4 at *
    have oB4 := OwnG.later z3 zb4
    have wb4 := wb3.trans (zb4.mono wb3.size)
    refine hK.out _ _ ?_ (fun hHeld => ?_)
    · try dsimp only
      exact HSx.out _ bel4
    clear hK K
    refine wpAnyH_ready (rs := [3]) (by kernel_rfl) (by simp) ?_
    refine AllReadyH.cons rfl (fun K hK => ?_) AllReadyH.nil
    have hbs5 : w3.heap.size ≤ w4.heap.size := by omega
    refine step_appG Try.tyPl _ rfl (.tmp 3) (.tmp 5) 29 rfl (w3.heap.size) (some ⟨w3.heap.size, 0, none⟩) 0 0 np [] ps (.slice ap np cp) rfl rfl HN.out.1 z4 rfl (src_rowG Try.tyPl.1 np cp (by show 0 < 5; omega) HN.out.1 (HR.out.1.later (HU.out.trans (bel4.mono HU.out.size))) HC.out.1) (by omega) hbs5 ?_
    intro a5 c5 w5 ho5 hg5 ht5
    have zs5 := hg5.size
    have bel5 := Below.grown bel4 hg5 bel4.size (fun j hj => by rw [ob_some, Option.some.injEq] at hj; have := HS12.out; omega)
    have oB5 := OwnG.grown oB4 hg5 (fun j hj he => by rw [ob_some, Option.some.injEq] at hj he; omega)
    rw [Nat.zero_add, List.nil_append] at ho5
    have lt5 := fun j hj => (OwnG.lt ho5 j hj).2
    have wb5 := Below.grown wb4 hg5 wb4.size (fun j hj => by rw [ob_some, Option.some.injEq] at hj; omega)
    refine hK.out _ _ ?_ (fun hHeld => ?_)
    · try dsimp only
      exact HSx.out _ bel5
    clear hK K
    refine wpAnyH_ready (rs := [7]) (by kernel_rfl) (by simp) ?_
    refine AllReadyH.cons rfl (fun K hK => ?_) AllReadyH.nil
    have hbs6 : W2.heap.size ≤ w5.heap.size := by omega
    refine step_appG Try.tyBk _ rfl (.tmp 7) (.tmp 9) 30 rfl (W2.heap.size) (some ⟨W2.heap.size, 0, none⟩) 0 0 nb [] bs (.slice ab nb cb) rfl rfl HN.out.2 oB5 rfl (src_rowG Try.tyBk.1 nb cb (by show 0 < 5; omega) HN.out.2 (HR.out.2.later (HU.out.trans (bel5.mono HU.out.size))) HC.out.2) (by omega) hbs6 ?_
    intro a6 c6 w6 ho6 hg6 ht6
    have zs6 := hg6.size
    have bel6 := Below.grown bel5 hg6 bel5.size (fun j hj => by rw [ob_some, Option.some.injEq] at hj; have := HS12.out; omega)
    have oP6 := OwnG.grown ho5 hg6 (fun j hj he => by have h7 := lt5 j hj; rw [ob_some, Option.some.injEq] at he; rcases ht5 with rfl | rfl <;> rw [ob_some, Option.some.injEq] at hj <;> omega)
    rw [Nat.zero_add, List.nil_append] at ho6
    have lt6 := fun j hj => (OwnG.lt ho6 j hj).2
    have wb6 := Below.grown wb5 hg6 wb5.size (fun j hj => by rw [ob_some, Option.some.injEq] at hj; omega)
    refine hK.out _ _ ?_ (fun hHeld => ?_)
    · try dsimp only
      exact HSx.out _ bel6
    clear hK K
    refine wpAnyH_take (i := 8) (oi := ⟨some 11, _, _, _, _, _⟩) (v := ?_) rfl (by kernel_rfl) (by kernel_rfl) (by kernel_rfl) (fun _ _ _ h => h) (Or.inl ⟨by rfl, ?_⟩) (by assumption) ?_
    rotate_left
    · intro w hSw
      try dsimp only at hSw
      go_simp
      try with_reducible rfl
    simp only [Act.put, List.setIfInBounds_toArray]
    refine wpAnyH_ready (rs := [9]) (by kernel_rfl) (by simp) ?_
    refine AllReadyH.cons rfl (fun K hK => ?_) AllReadyH.nil
    have zz : w.heap.size + 1 < w6.heap.size := by have := HS12.out; omega
    have r0 := (wb6.cell yL).trans y0
    have r1 := (wb6.cell yL).trans y1
    have rF : ∀ o, w6.frozen? ⟨w.heap.size + 1, o, none⟩ = false := fun o => (wb6.frozen yL).trans (yF o)
    go_simp
    refine hK.out _ _ ?_ (fun hHeld => ?_)
    · try dsimp only
      refine HSx.out _ ?_
      repeat (with_reducible refine Below.setCell ?_ ?_ _; rotate_left; (focus (have := HS12.out; simp; omega)))
      exact bel6
    clear hK K
    refine wpAnyH_done (by kernel_rfl) ?_ _
    clear hHeld
    go_wp2_with fail
    refine bodyPost_ret (v := .agg #[.slice a5 np c5, .slice a6 nb c6]) (by simp [results, Try.results48, go_sem, r0, r1]) rfl ⟨a5, c5, a6, c6, rfl, ?_, ?_, ?_, ?_⟩
    · have o1 := OwnG.grown oP6 (grown_cellG w6 (w.heap.size + 1) 0 (.slice a5 np c5)) (fun k hk e => by have h5 := (OwnG.lt oP6 k hk).1; have h6 := HS12.out; simp at e; omega)
      have o2 := OwnG.grown o1 (grown_cellG _ (w.heap.size + 1) 1 (.slice a6 nb c6)) (fun k hk e => by have h5 := (OwnG.lt oP6 k hk).1; have h6 := HS12.out; simp at e; omega)
      exact o2.mono (by have := HS12.out; omega)
    · have o1 := OwnG.grown ho6 (grown_cellG w6 (w.heap.size + 1) 0 (.slice a5 np c5)) (fun k hk e => by have h5 := (OwnG.lt ho6 k hk).1; have h6 := HS12.out; simp at e; omega)
      have o2 := OwnG.grown o1 (grown_cellG _ (w.heap.size + 1) 1 (.slice a6 nb c6)) (fun k hk e => by have h5 := (OwnG.lt ho6 k hk).1; have h6 := HS12.out; simp at e; omega)
      exact o2.mono (by have := HS12.out; omega)
    · intro k h1 h2
      have h7 := lt5 k h1
      have h8 := lt6 k h2
      rcases ht5 with rfl | rfl <;> rcases ht6 with rfl | rfl <;> rw [ob_some, Option.some.injEq] at h1 h2 <;> omega
    · refine HU.out.trans (Below.mono ?_ HU.out.size)
      repeat (with_reducible refine Below.setCell ?_ ?_ _; rotate_left; (focus (have := HS12.out; simp; omega)))
      exact bel6

end Go.Proofs.Ythbpehpnikknlaa

namespace Go.Proofs.Ythbpehpnikknlaa
open Go.RowKit

theorem RowG.takeG {α : Type} {K : Kd α} {w : World} {a : Option Addr} {ps : List α} (h : RowG K w a ps) (i : Nat) : RowG K w a (ps.take i) := fun j hj => by
  rw [List.length_take] at hj
  obtain ⟨p, o, q, ha, hp, hq, c⟩ := h j (by omega)
  exact ⟨p, o, q, ha, hp, by rw [List.getElem?_take, if_pos (by omega)]; exact hq, c⟩
theorem RowG.fromG {α : Type} {K : Kd α} {w : World} {g : Nat} {ps : List α} (h : RowG K w (some ⟨g, 0, none⟩) ps) (j : Nat) : RowG K w (some ⟨g, j * K.k, none⟩) (ps.drop j) := fun i hi => by
  rw [List.length_drop] at hi
  obtain ⟨p, o, q, ha, hp, hq, c⟩ := h (j + i) (by omega)
  simp only [Option.some.injEq, Addr.mk.injEq, and_true] at ha
  obtain ⟨rfl, rfl⟩ := ha
  refine ⟨_, _, q, rfl, hp, by rw [List.getElem?_drop]; exact hq, fun x v hv => ?_⟩
  have := c x v hv
  rw [Nat.zero_add, Nat.add_mul] at this
  exact this

set_option maxRecDepth 10000 in
set_option maxHeartbeats 4000000 in
theorem sDrop_a (pt : Pf) (g h : Nat) (np nb : Nat) (ps : List Pl) (bs : List Bk) (w : World) (hnp : np = ps.length) (hnb : nb = bs.length) (hP : RowG KPl w (some ⟨g, 0, none⟩) ps) (hK : RowG KBk w (some ⟨h, 0, none⟩) bs) (hl : np ≤ 1048576) (hl' : nb ≤ 1048576) (hst : ∀ q ∈ bs, q.t.size ≤ 9223372036854775807) (hr : planB ps bs = false) :
    Calls Try.prog 21 #[.agg #[.slice (some ⟨g, 0, none⟩) np np, .slice (some ⟨h, 0, none⟩) nb nb], .agg #[.bool pt.s, .int .i64 pt.H.toInt, .int .i64 pt.L.toInt, .int .i64 pt.b]] w fun e w' => ∃ a c b d, e = .returned (.tuple #[.agg #[.slice a np c, .slice b nb d], .int .i64 (1)]) ∧ OwnG KPl 48 w' w.heap.size (.slice a np c) (ps) ∧ OwnG KBk 56 w' w.heap.size (.slice b nb d) (bs) ∧ (∀ k, (Value.slice a np c).ownBlock = some k → (Value.slice b nb d).ownBlock ≠ some k) ∧ Below w.heap.size w w' := by
  have HOw := hidP (fun W h' => l5Copy_any (some ⟨g, 0, none⟩) np np (some ⟨h, 0, none⟩) nb nb ps bs W hnp hnb (hP.later h') (hK.later h') (fun e => by cases e) (fun e => by cases e) hl hl')
  have HPO := hidP (fun W h' => sPlanOk_any (some ⟨g, 0, none⟩) np np (some ⟨h, 0, none⟩) nb nb ps bs W hnp hnb (hP.later h') (hK.later h') (by omega) (by omega) hst)
  have HPk := hidP (sPrefixOk_any pt.s pt.H pt.L pt.b)
  change Hid (∀ w, Calls Try.prog 41 _ w fun e w' => e = .returned (.bool pt.pk) ∧ Below w.heap.size w w') at HPk
  have HBI := hidP (fun W h' => l5Blocks_any pt (some ⟨g, 0, none⟩) np np (some ⟨h, 0, none⟩) nb nb bs W hnb (hK.later h') hl')
  have HN := hidP (And.intro hnp hnb)
  have HRP := hidP hP
  clear hP hK hnp hnb hst
  rw [hr] at HPO
  go_enter Try.func21, Try.ntmps21
  go_wp2_with fail
  have uF := frz2 w 32 (.slice (some ⟨g, 0, none⟩) np np) (.slice (some ⟨h, 0, none⟩) nb nb)
  obtain ⟨u0, u1⟩ := box2 (u := .slice (some ⟨g, 0, none⟩) np np) (v := .slice (some ⟨h, 0, none⟩) nb nb) w 32
  have uB := alloc_below w (.cells #[.slice (some ⟨g, 0, none⟩) np np, .slice (some ⟨h, 0, none⟩) nb nb] 32)
  have uL := alloc_lt w (.cells #[.slice (some ⟨g, 0, none⟩) np np, .slice (some ⟨h, 0, none⟩) nb nb] 32)
  have uS : (w.alloc (.cells #[.slice (some ⟨g, 0, none⟩) np np, .slice (some ⟨h, 0, none⟩) nb nb] 32)).heap.size = w.heap.size + 1 := by simp
  generalize w.alloc (.cells #[.slice (some ⟨g, 0, none⟩) np np, .slice (some ⟨h, 0, none⟩) nb nb] 32) = W1 at *
  obtain ⟨y0, y1, y2, y3⟩ := box4 (p := pt) W1 46
  have yB := alloc_below W1 (.cells #[.bool pt.s, .int .i64 pt.H.toInt, .int .i64 pt.L.toInt, .int .i64 pt.b] 46)
  have yL := alloc_lt W1 (.cells #[.bool pt.s, .int .i64 pt.H.toInt, .int .i64 pt.L.toInt, .int .i64 pt.b] 46)
  have yS : (W1.alloc (.cells #[.bool pt.s, .int .i64 pt.H.toInt, .int .i64 pt.L.toInt, .int .i64 pt.b] 46)).heap.size = W1.heap.size + 1 := by simp
  generalize W1.alloc (.cells #[.bool pt.s, .int .i64 pt.H.toInt, .int .i64 pt.L.toInt, .int .i64 pt.b] 46) = W2 at *
  rw [uS] at y0 y1 y2 y3 yL yS
  have kF := frz2 W2 32 (.slice none 0 0) (.slice none 0 0)
  obtain ⟨k0, k1⟩ := box2 (u := .slice none 0 0) (v := .slice none 0 0) W2 32
  have kB := alloc_below W2 (.cells #[.slice none 0 0, .slice none 0 0] 32)
  have kL := alloc_lt W2 (.cells #[.slice none 0 0, .slice none 0 0] 32)
  have kS : (W2.alloc (.cells #[.slice none 0 0, .slice none 0 0] 32)).heap.size = W2.heap.size + 1 := by simp
  generalize W2.alloc (.cells #[.slice none 0 0, .slice none 0 0] 32) = W3 at *
  rw [yS] at k0 k1 kL kS
  rw [yS] at kF
  have l0 : w.heap.size < W2.heap.size := by omega
  have l1 : w.heap.size + 1 < W2.heap.size := by omega
  have U0 := (kB.cell l0).trans ((yB.cell uL).trans u0)
  have U1 := (kB.cell l0).trans ((yB.cell uL).trans u1)
  have UF : ∀ o, W3.frozen? ⟨w.heap.size, o, none⟩ = false := fun o => (kB.frozen l0).trans ((yB.frozen uL).trans (uF o))
  have Y0 := (kB.cell l1).trans y0
  have Y1 := (kB.cell l1).trans y1
  have Y2 := (kB.cell l1).trans y2
  have Y3 := (kB.cell l1).trans y3
  have acc0 := hidP ((uB.trans (yB.mono uB.size)).trans (kB.mono (Nat.le_trans uB.size yB.size)))
  have UL : w.heap.size < W3.heap.size := by omega
  have YL : w.heap.size + 1 < W3.heap.size := by omega
  have kL3 : w.heap.size + 1 + 1 < W3.heap.size := by omega
  have UL9 := UL
  have kL9 := kL3
  clear uB yB kB uS yS kS u0 u1 y0 y1 y2 y3 uL yL kL uF l0 l1
  have U0c := U0
  have ac3_W3 := hidP (Below.refl W3.heap.size W3)
  refine (HOw.out _ acc0.out).mono ?_
  rintro e w4 ⟨a, c, b, d, rfl, op, ob, hne, hb4⟩
  have pb0_w4 := (hb4.cell UL).trans U0
  have pb1_w4 := (hb4.cell UL).trans U1
  have pbF_w4 : ∀ o, w4.frozen? ⟨w.heap.size, o, none⟩ = false := fun o => (hb4.frozen UL).trans (UF o)
  have pbL_w4 : w.heap.size < w4.heap.size := Nat.lt_of_lt_of_le UL hb4.size
  have at0_w4 := (hb4.cell YL).trans Y0
  have at1_w4 := (hb4.cell YL).trans Y1
  have at2_w4 := (hb4.cell YL).trans Y2
  have at3_w4 := (hb4.cell YL).trans Y3
  have atL_w4 : w.heap.size + 1 < w4.heap.size := Nat.lt_of_lt_of_le YL hb4.size
  have rs0_w4 := (hb4.cell kL3).trans k0
  have rs1_w4 := (hb4.cell kL3).trans k1
  have rsF_w4 : ∀ o, w4.frozen? ⟨w.heap.size + 1 + 1, o, none⟩ = false := fun o => (hb4.frozen kL3).trans (kF o)
  have rsL_w4 : w.heap.size + 1 + 1 < w4.heap.size := Nat.lt_of_lt_of_le kL3 hb4.size
  have acc_w4 := hidP (acc0.out.trans (hb4.mono acc0.out.size))
  have ac3_w4 := hidP (ac3_W3.out.trans (hb4.mono ac3_W3.out.size))
  have w43c := hb4.size
  have HLB4 := hidP (fun j hj => (OwnG.lt ob j hj).2)
  have oP_w4 := hidP op
  have oB_w4 := hidP ob
  have HNE := hidP hne
  clear UF U0 U1 UL Y0 Y1 Y2 Y3 YL kF k0 k1 kL3 acc0 ac3_W3 hb4 op ob hne
  go_wp2_with fail
  have oF := frz2 w4 32 (.slice a np c) (.slice b nb d)
  obtain ⟨o0, o1⟩ := box2 (u := .slice a np c) (v := .slice b nb d) w4 32
  have oB := alloc_below w4 (.cells #[.slice a np c, .slice b nb d] 32)
  have oL := alloc_lt w4 (.cells #[.slice a np c, .slice b nb d] 32)
  have oS : (w4.alloc (.cells #[.slice a np c, .slice b nb d] 32)).heap.size = w4.heap.size + 1 := by simp
  generalize w4.alloc (.cells #[.slice a np c, .slice b nb d] 32) = W5 at *
  have hb5 := oB
  have pb0_W5 := (hb5.cell pbL_w4).trans pb0_w4
  have pb1_W5 := (hb5.cell pbL_w4).trans pb1_w4
  have pbF_W5 : ∀ o, W5.frozen? ⟨w.heap.size, o, none⟩ = false := fun o => (hb5.frozen pbL_w4).trans (pbF_w4 o)
  have pbL_W5 : w.heap.size < W5.heap.size := Nat.lt_of_lt_of_le pbL_w4 hb5.size
  have at0_W5 := (hb5.cell atL_w4).trans at0_w4
  have at1_W5 := (hb5.cell atL_w4).trans at1_w4
  have at2_W5 := (hb5.cell atL_w4).trans at2_w4
  have at3_W5 := (hb5.cell atL_w4).trans at3_w4
  have atL_W5 : w.heap.size + 1 < W5.heap.size := Nat.lt_of_lt_of_le atL_w4 hb5.size
  have rs0_W5 := (hb5.cell rsL_w4).trans rs0_w4
  have rs1_W5 := (hb5.cell rsL_w4).trans rs1_w4
  have rsF_W5 : ∀ o, W5.frozen? ⟨w.heap.size + 1 + 1, o, none⟩ = false := fun o => (hb5.frozen rsL_w4).trans (rsF_w4 o)
  have rsL_W5 : w.heap.size + 1 + 1 < W5.heap.size := Nat.lt_of_lt_of_le rsL_w4 hb5.size
  have oP_W5 := hidP (OwnG.later oP_w4.out hb5)
  have oB_W5 := hidP (OwnG.later oB_w4.out hb5)
  have acc_W5 := hidP (acc_w4.out.trans (hb5.mono acc_w4.out.size))
  have ac3_W5 := hidP (ac3_w4.out.trans (hb5.mono ac3_w4.out.size))
  clear pbF_w4 pb0_w4 pb1_w4 pbL_w4 at0_w4 at1_w4 at2_w4 at3_w4 atL_w4 rsF_w4 rs0_w4 rs1_w4 rsL_w4 oP_w4 oB_w4 acc_w4 ac3_w4 hb5 oB oS
  refine (HPO.out _ acc_W5.out).mono ?_
  rintro e w6 ⟨rfl, hb6⟩
  have pb0_w6 := (hb6.cell pbL_W5).trans pb0_W5
  have pb1_w6 := (hb6.cell pbL_W5).trans pb1_W5
  have pbF_w6 : ∀ o, w6.frozen? ⟨w.heap.size, o, none⟩ = false := fun o => (hb6.frozen pbL_W5).trans (pbF_W5 o)
  have pbL_w6 : w.heap.size < w6.heap.size := Nat.lt_of_lt_of_le pbL_W5 hb6.size
  have at0_w6 := (hb6.cell atL_W5).trans at0_W5
  have at1_w6 := (hb6.cell atL_W5).trans at1_W5
  have at2_w6 := (hb6.cell atL_W5).trans at2_W5
  have at3_w6 := (hb6.cell atL_W5).trans at3_W5
  have atL_w6 : w.heap.size + 1 < w6.heap.size := Nat.lt_of_lt_of_le atL_W5 hb6.size
  have rs0_w6 := (hb6.cell rsL_W5).trans rs0_W5
  have rs1_w6 := (hb6.cell rsL_W5).trans rs1_W5
  have rsF_w6 : ∀ o, w6.frozen? ⟨w.heap.size + 1 + 1, o, none⟩ = false := fun o => (hb6.frozen rsL_W5).trans (rsF_W5 o)
  have rsL_w6 : w.heap.size + 1 + 1 < w6.heap.size := Nat.lt_of_lt_of_le rsL_W5 hb6.size
  have ot0_w6 := (hb6.cell oL).trans o0
  have ot1_w6 := (hb6.cell oL).trans o1
  have otF_w6 : ∀ o, w6.frozen? ⟨w4.heap.size, o, none⟩ = false := fun o => (hb6.frozen oL).trans (oF o)
  have otL_w6 : w4.heap.size < w6.heap.size := Nat.lt_of_lt_of_le oL hb6.size
  have oP_w6 := hidP (OwnG.later oP_W5.out hb6)
  have oB_w6 := hidP (OwnG.later oB_W5.out hb6)
  have acc_w6 := hidP (acc_W5.out.trans (hb6.mono acc_W5.out.size))
  have ac3_w6 := hidP (ac3_W5.out.trans (hb6.mono ac3_W5.out.size))
  clear pbF_W5 pb0_W5 pb1_W5 pbL_W5 at0_W5 at1_W5 at2_W5 at3_W5 atL_W5 rsF_W5 rs0_W5 rs1_W5 rsL_W5 oF o0 o1 oL oP_W5 oB_W5 acc_W5 ac3_W5 hb6
  go_wp2_with fail
  refine bodyPost_ret (v := .tuple #[.agg #[.slice a np c, .slice b nb d], .int .i64 1]) (by simp [results, Try.results21, go_sem, rs0_w6, rs1_w6]) rfl ⟨_, _, _, _, rfl, (OwnG.set2 oP_w6.out kL9).mono (Nat.le_of_lt UL9), (OwnG.set2 oB_w6.out kL9).mono (Nat.le_of_lt UL9), HNE.out, below_set2 acc_w6.out (by omega)⟩

set_option maxRecDepth 10000 in
set_option maxHeartbeats 4000000 in
theorem sDrop_b (pt : Pf) (g h : Nat) (np nb : Nat) (ps : List Pl) (bs : List Bk) (w : World) (hnp : np = ps.length) (hnb : nb = bs.length) (hP : RowG KPl w (some ⟨g, 0, none⟩) ps) (hK : RowG KBk w (some ⟨h, 0, none⟩) bs) (hl : np ≤ 1048576) (hl' : nb ≤ 1048576) (hst : ∀ q ∈ bs, q.t.size ≤ 9223372036854775807) (hr : planB ps bs = true) (hk : pt.pk = false) :
    Calls Try.prog 21 #[.agg #[.slice (some ⟨g, 0, none⟩) np np, .slice (some ⟨h, 0, none⟩) nb nb], .agg #[.bool pt.s, .int .i64 pt.H.toInt, .int .i64 pt.L.toInt, .int .i64 pt.b]] w fun e w' => ∃ a c b d, e = .returned (.tuple #[.agg #[.slice a np c, .slice b nb d], .int .i64 (1)]) ∧ OwnG KPl 48 w' w.heap.size (.slice a np c) (ps) ∧ OwnG KBk 56 w' w.heap.size (.slice b nb d) (bs) ∧ (∀ k, (Value.slice a np c).ownBlock = some k → (Value.slice b nb d).ownBlock ≠ some k) ∧ Below w.heap.size w w' := by
  have HOw := hidP (fun W h' => l5Copy_any (some ⟨g, 0, none⟩) np np (some ⟨h, 0, none⟩) nb nb ps bs W hnp hnb (hP.later h') (hK.later h') (fun e => by cases e) (fun e => by cases e) hl hl')
  have HPO := hidP (fun W h' => sPlanOk_any (some ⟨g, 0, none⟩) np np (some ⟨h, 0, none⟩) nb nb ps bs W hnp hnb (hP.later h') (hK.later h') (by omega) (by omega) hst)
  have HPk := hidP (sPrefixOk_any pt.s pt.H pt.L pt.b)
  change Hid (∀ w, Calls Try.prog 41 _ w fun e w' => e = .returned (.bool pt.pk) ∧ Below w.heap.size w w') at HPk
  have HBI := hidP (fun W h' => l5Blocks_any pt (some ⟨g, 0, none⟩) np np (some ⟨h, 0, none⟩) nb nb bs W hnb (hK.later h') hl')
  have HN := hidP (And.intro hnp hnb)
  have HRP := hidP hP
  clear hP hK hnp hnb hst
  rw [hr] at HPO
  rw [hk] at HPk
  go_enter Try.func21, Try.ntmps21
  go_wp2_with fail
  have uF := frz2 w 32 (.slice (some ⟨g, 0, none⟩) np np) (.slice (some ⟨h, 0, none⟩) nb nb)
  obtain ⟨u0, u1⟩ := box2 (u := .slice (some ⟨g, 0, none⟩) np np) (v := .slice (some ⟨h, 0, none⟩) nb nb) w 32
  have uB := alloc_below w (.cells #[.slice (some ⟨g, 0, none⟩) np np, .slice (some ⟨h, 0, none⟩) nb nb] 32)
  have uL := alloc_lt w (.cells #[.slice (some ⟨g, 0, none⟩) np np, .slice (some ⟨h, 0, none⟩) nb nb] 32)
  have uS : (w.alloc (.cells #[.slice (some ⟨g, 0, none⟩) np np, .slice (some ⟨h, 0, none⟩) nb nb] 32)).heap.size = w.heap.size + 1 := by simp
  generalize w.alloc (.cells #[.slice (some ⟨g, 0, none⟩) np np, .slice (some ⟨h, 0, none⟩) nb nb] 32) = W1 at *
  obtain ⟨y0, y1, y2, y3⟩ := box4 (p := pt) W1 46
  have yB := alloc_below W1 (.cells #[.bool pt.s, .int .i64 pt.H.toInt, .int .i64 pt.L.toInt, .int .i64 pt.b] 46)
  have yL := alloc_lt W1 (.cells #[.bool pt.s, .int .i64 pt.H.toInt, .int .i64 pt.L.toInt, .int .i64 pt.b] 46)
  have yS : (W1.alloc (.cells #[.bool pt.s, .int .i64 pt.H.toInt, .int .i64 pt.L.toInt, .int .i64 pt.b] 46)).heap.size = W1.heap.size + 1 := by simp
  generalize W1.alloc (.cells #[.bool pt.s, .int .i64 pt.H.toInt, .int .i64 pt.L.toInt, .int .i64 pt.b] 46) = W2 at *
  rw [uS] at y0 y1 y2 y3 yL yS
  have kF := frz2 W2 32 (.slice none 0 0) (.slice none 0 0)
  obtain ⟨k0, k1⟩ := box2 (u := .slice none 0 0) (v := .slice none 0 0) W2 32
  have kB := alloc_below W2 (.cells #[.slice none 0 0, .slice none 0 0] 32)
  have kL := alloc_lt W2 (.cells #[.slice none 0 0, .slice none 0 0] 32)
  have kS : (W2.alloc (.cells #[.slice none 0 0, .slice none 0 0] 32)).heap.size = W2.heap.size + 1 := by simp
  generalize W2.alloc (.cells #[.slice none 0 0, .slice none 0 0] 32) = W3 at *
  rw [yS] at k0 k1 kL kS
  rw [yS] at kF
  have l0 : w.heap.size < W2.heap.size := by omega
  have l1 : w.heap.size + 1 < W2.heap.size := by omega
  have U0 := (kB.cell l0).trans ((yB.cell uL).trans u0)
  have U1 := (kB.cell l0).trans ((yB.cell uL).trans u1)
  have UF : ∀ o, W3.frozen? ⟨w.heap.size, o, none⟩ = false := fun o => (kB.frozen l0).trans ((yB.frozen uL).trans (uF o))
  have Y0 := (kB.cell l1).trans y0
  have Y1 := (kB.cell l1).trans y1
  have Y2 := (kB.cell l1).trans y2
  have Y3 := (kB.cell l1).trans y3
  have acc0 := hidP ((uB.trans (yB.mono uB.size)).trans (kB.mono (Nat.le_trans uB.size yB.size)))
  have UL : w.heap.size < W3.heap.size := by omega
  have YL : w.heap.size + 1 < W3.heap.size := by omega
  have kL3 : w.heap.size + 1 + 1 < W3.heap.size := by omega
  have UL9 := UL
  have kL9 := kL3
  clear uB yB kB uS yS kS u0 u1 y0 y1 y2 y3 uL yL kL uF l0 l1
  have U0c := U0
  have ac3_W3 := hidP (Below.refl W3.heap.size W3)
  refine (HOw.out _ acc0.out).mono ?_
  rintro e w4 ⟨a, c, b, d, rfl, op, ob, hne, hb4⟩
  have pb0_w4 := (hb4.cell UL).trans U0
  have pb1_w4 := (hb4.cell UL).trans U1
  have pbF_w4 : ∀ o, w4.frozen? ⟨w.heap.size, o, none⟩ = false := fun o => (hb4.frozen UL).trans (UF o)
  have pbL_w4 : w.heap.size < w4.heap.size := Nat.lt_of_lt_of_le UL hb4.size
  have at0_w4 := (hb4.cell YL).trans Y0
  have at1_w4 := (hb4.cell YL).trans Y1
  have at2_w4 := (hb4.cell YL).trans Y2
  have at3_w4 := (hb4.cell YL).trans Y3
  have atL_w4 : w.heap.size + 1 < w4.heap.size := Nat.lt_of_lt_of_le YL hb4.size
  have rs0_w4 := (hb4.cell kL3).trans k0
  have rs1_w4 := (hb4.cell kL3).trans k1
  have rsF_w4 : ∀ o, w4.frozen? ⟨w.heap.size + 1 + 1, o, none⟩ = false := fun o => (hb4.frozen kL3).trans (kF o)
  have rsL_w4 : w.heap.size + 1 + 1 < w4.heap.size := Nat.lt_of_lt_of_le kL3 hb4.size
  have acc_w4 := hidP (acc0.out.trans (hb4.mono acc0.out.size))
  have ac3_w4 := hidP (ac3_W3.out.trans (hb4.mono ac3_W3.out.size))
  have w43c := hb4.size
  have HLB4 := hidP (fun j hj => (OwnG.lt ob j hj).2)
  have oP_w4 := hidP op
  have oB_w4 := hidP ob
  have HNE := hidP hne
  clear UF U0 U1 UL Y0 Y1 Y2 Y3 YL kF k0 k1 kL3 acc0 ac3_W3 hb4 op ob hne
  go_wp2_with fail
  have oF := frz2 w4 32 (.slice a np c) (.slice b nb d)
  obtain ⟨o0, o1⟩ := box2 (u := .slice a np c) (v := .slice b nb d) w4 32
  have oB := alloc_below w4 (.cells #[.slice a np c, .slice b nb d] 32)
  have oL := alloc_lt w4 (.cells #[.slice a np c, .slice b nb d] 32)
  have oS : (w4.alloc (.cells #[.slice a np c, .slice b nb d] 32)).heap.size = w4.heap.size + 1 := by simp
  generalize w4.alloc (.cells #[.slice a np c, .slice b nb d] 32) = W5 at *
  have hb5 := oB
  have pb0_W5 := (hb5.cell pbL_w4).trans pb0_w4
  have pb1_W5 := (hb5.cell pbL_w4).trans pb1_w4
  have pbF_W5 : ∀ o, W5.frozen? ⟨w.heap.size, o, none⟩ = false := fun o => (hb5.frozen pbL_w4).trans (pbF_w4 o)
  have pbL_W5 : w.heap.size < W5.heap.size := Nat.lt_of_lt_of_le pbL_w4 hb5.size
  have at0_W5 := (hb5.cell atL_w4).trans at0_w4
  have at1_W5 := (hb5.cell atL_w4).trans at1_w4
  have at2_W5 := (hb5.cell atL_w4).trans at2_w4
  have at3_W5 := (hb5.cell atL_w4).trans at3_w4
  have atL_W5 : w.heap.size + 1 < W5.heap.size := Nat.lt_of_lt_of_le atL_w4 hb5.size
  have rs0_W5 := (hb5.cell rsL_w4).trans rs0_w4
  have rs1_W5 := (hb5.cell rsL_w4).trans rs1_w4
  have rsF_W5 : ∀ o, W5.frozen? ⟨w.heap.size + 1 + 1, o, none⟩ = false := fun o => (hb5.frozen rsL_w4).trans (rsF_w4 o)
  have rsL_W5 : w.heap.size + 1 + 1 < W5.heap.size := Nat.lt_of_lt_of_le rsL_w4 hb5.size
  have oP_W5 := hidP (OwnG.later oP_w4.out hb5)
  have oB_W5 := hidP (OwnG.later oB_w4.out hb5)
  have acc_W5 := hidP (acc_w4.out.trans (hb5.mono acc_w4.out.size))
  have ac3_W5 := hidP (ac3_w4.out.trans (hb5.mono ac3_w4.out.size))
  clear pbF_w4 pb0_w4 pb1_w4 pbL_w4 at0_w4 at1_w4 at2_w4 at3_w4 atL_w4 rsF_w4 rs0_w4 rs1_w4 rsL_w4 oP_w4 oB_w4 acc_w4 ac3_w4 hb5 oB oS
  refine (HPO.out _ acc_W5.out).mono ?_
  rintro e w6 ⟨rfl, hb6⟩
  have pb0_w6 := (hb6.cell pbL_W5).trans pb0_W5
  have pb1_w6 := (hb6.cell pbL_W5).trans pb1_W5
  have pbF_w6 : ∀ o, w6.frozen? ⟨w.heap.size, o, none⟩ = false := fun o => (hb6.frozen pbL_W5).trans (pbF_W5 o)
  have pbL_w6 : w.heap.size < w6.heap.size := Nat.lt_of_lt_of_le pbL_W5 hb6.size
  have at0_w6 := (hb6.cell atL_W5).trans at0_W5
  have at1_w6 := (hb6.cell atL_W5).trans at1_W5
  have at2_w6 := (hb6.cell atL_W5).trans at2_W5
  have at3_w6 := (hb6.cell atL_W5).trans at3_W5
  have atL_w6 : w.heap.size + 1 < w6.heap.size := Nat.lt_of_lt_of_le atL_W5 hb6.size
  have rs0_w6 := (hb6.cell rsL_W5).trans rs0_W5
  have rs1_w6 := (hb6.cell rsL_W5).trans rs1_W5
  have rsF_w6 : ∀ o, w6.frozen? ⟨w.heap.size + 1 + 1, o, none⟩ = false := fun o => (hb6.frozen rsL_W5).trans (rsF_W5 o)
  have rsL_w6 : w.heap.size + 1 + 1 < w6.heap.size := Nat.lt_of_lt_of_le rsL_W5 hb6.size
  have ot0_w6 := (hb6.cell oL).trans o0
  have ot1_w6 := (hb6.cell oL).trans o1
  have otF_w6 : ∀ o, w6.frozen? ⟨w4.heap.size, o, none⟩ = false := fun o => (hb6.frozen oL).trans (oF o)
  have otL_w6 : w4.heap.size < w6.heap.size := Nat.lt_of_lt_of_le oL hb6.size
  have oP_w6 := hidP (OwnG.later oP_W5.out hb6)
  have oB_w6 := hidP (OwnG.later oB_W5.out hb6)
  have acc_w6 := hidP (acc_W5.out.trans (hb6.mono acc_W5.out.size))
  have ac3_w6 := hidP (ac3_W5.out.trans (hb6.mono ac3_W5.out.size))
  clear pbF_W5 pb0_W5 pb1_W5 pbL_W5 at0_W5 at1_W5 at2_W5 at3_W5 atL_W5 rsF_W5 rs0_W5 rs1_W5 rsL_W5 oF o0 o1 oL oP_W5 oB_W5 acc_W5 ac3_W5 hb6
  go_wp2_with fail
  refine (HPk.out _).mono ?_
  rintro e w7 ⟨rfl, hb7⟩
  have pb0_w7 := (hb7.cell pbL_w6).trans pb0_w6
  have pb1_w7 := (hb7.cell pbL_w6).trans pb1_w6
  have pbF_w7 : ∀ o, w7.frozen? ⟨w.heap.size, o, none⟩ = false := fun o => (hb7.frozen pbL_w6).trans (pbF_w6 o)
  have pbL_w7 : w.heap.size < w7.heap.size := Nat.lt_of_lt_of_le pbL_w6 hb7.size
  have at0_w7 := (hb7.cell atL_w6).trans at0_w6
  have at1_w7 := (hb7.cell atL_w6).trans at1_w6
  have at2_w7 := (hb7.cell atL_w6).trans at2_w6
  have at3_w7 := (hb7.cell atL_w6).trans at3_w6
  have atL_w7 : w.heap.size + 1 < w7.heap.size := Nat.lt_of_lt_of_le atL_w6 hb7.size
  have rs0_w7 := (hb7.cell rsL_w6).trans rs0_w6
  have rs1_w7 := (hb7.cell rsL_w6).trans rs1_w6
  have rsF_w7 : ∀ o, w7.frozen? ⟨w.heap.size + 1 + 1, o, none⟩ = false := fun o => (hb7.frozen rsL_w6).trans (rsF_w6 o)
  have rsL_w7 : w.heap.size + 1 + 1 < w7.heap.size := Nat.lt_of_lt_of_le rsL_w6 hb7.size
  have ot0_w7 := (hb7.cell otL_w6).trans ot0_w6
  have ot1_w7 := (hb7.cell otL_w6).trans ot1_w6
  have otF_w7 : ∀ o, w7.frozen? ⟨w4.heap.size, o, none⟩ = false := fun o => (hb7.frozen otL_w6).trans (otF_w6 o)
  have otL_w7 : w4.heap.size < w7.heap.size := Nat.lt_of_lt_of_le otL_w6 hb7.size
  have oP_w7 := hidP (OwnG.later oP_w6.out hb7)
  have oB_w7 := hidP (OwnG.later oB_w6.out hb7)
  have acc_w7 := hidP (acc_w6.out.trans (hb7.mono acc_w6.out.size))
  have ac3_w7 := hidP (ac3_w6.out.trans (hb7.mono ac3_w6.out.size))
  clear pbF_w6 pb0_w6 pb1_w6 pbL_w6 at0_w6 at1_w6 at2_w6 at3_w6 atL_w6 rsF_w6 rs0_w6 rs1_w6 rsL_w6 otF_w6 ot0_w6 ot1_w6 otL_w6 oP_w6 oB_w6 acc_w6 ac3_w6 hb7
  go_wp2_with fail
  refine bodyPost_ret (v := .tuple #[.agg #[.slice a np c, .slice b nb d], .int .i64 1]) (by simp [results, Try.results21, go_sem, rs0_w7, rs1_w7]) rfl ⟨_, _, _, _, rfl, (OwnG.set2 oP_w7.out kL9).mono (Nat.le_of_lt UL9), (OwnG.set2 oB_w7.out kL9).mono (Nat.le_of_lt UL9), HNE.out, below_set2 acc_w7.out (by omega)⟩

set_option maxRecDepth 10000 in
set_option maxHeartbeats 4000000 in
theorem sDrop_c (pt : Pf) (g h : Nat) (np nb : Nat) (ps : List Pl) (bs : List Bk) (w : World) (hnp : np = ps.length) (hnb : nb = bs.length) (hP : RowG KPl w (some ⟨g, 0, none⟩) ps) (hK : RowG KBk w (some ⟨h, 0, none⟩) bs) (hl : np ≤ 1048576) (hl' : nb ≤ 1048576) (hst : ∀ q ∈ bs, q.t.size ≤ 9223372036854775807) (hr : planB ps bs = true) (hk : pt.pk = true) (hp : plc pt ps = -1) :
    Calls Try.prog 21 #[.agg #[.slice (some ⟨g, 0, none⟩) np np, .slice (some ⟨h, 0, none⟩) nb nb], .agg #[.bool pt.s, .int .i64 pt.H.toInt, .int .i64 pt.L.toInt, .int .i64 pt.b]] w fun e w' => ∃ a c b d, e = .returned (.tuple #[.agg #[.slice a np c, .slice b nb d], .int .i64 (4)]) ∧ OwnG KPl 48 w' w.heap.size (.slice a np c) (ps) ∧ OwnG KBk 56 w' w.heap.size (.slice b nb d) (bs) ∧ (∀ k, (Value.slice a np c).ownBlock = some k → (Value.slice b nb d).ownBlock ≠ some k) ∧ Below w.heap.size w w' := by
  have HOw := hidP (fun W h' => l5Copy_any (some ⟨g, 0, none⟩) np np (some ⟨h, 0, none⟩) nb nb ps bs W hnp hnb (hP.later h') (hK.later h') (fun e => by cases e) (fun e => by cases e) hl hl')
  have HPO := hidP (fun W h' => sPlanOk_any (some ⟨g, 0, none⟩) np np (some ⟨h, 0, none⟩) nb nb ps bs W hnp hnb (hP.later h') (hK.later h') (by omega) (by omega) hst)
  have HPk := hidP (sPrefixOk_any pt.s pt.H pt.L pt.b)
  change Hid (∀ w, Calls Try.prog 41 _ w fun e w' => e = .returned (.bool pt.pk) ∧ Below w.heap.size w w') at HPk
  have hd : Dsj ps := (pools_dsj ps none (fun _ h => by cases h) (by have hr' := hr; unfold planB at hr'; rw [Bool.and_eq_true, Bool.and_eq_true (poolsF none ps)] at hr'; exact hr'.2.1)).1
  have HPl := hidP (fun W h' => l5Exact_any pt hk (some ⟨g, 0, none⟩) np np (some ⟨h, 0, none⟩) nb nb ps hd W hnp (hP.later h') (by omega))
  have HBI := hidP (fun W h' => l5Blocks_any pt (some ⟨g, 0, none⟩) np np (some ⟨h, 0, none⟩) nb nb bs W hnb (hK.later h') hl')
  have HN := hidP (And.intro hnp hnb)
  have HRP := hidP hP
  clear hP hK hnp hnb hst
  rw [hr] at HPO
  rw [hk] at HPk
  rw [hp] at HPl
  go_enter Try.func21, Try.ntmps21
  go_wp2_with fail
  have uF := frz2 w 32 (.slice (some ⟨g, 0, none⟩) np np) (.slice (some ⟨h, 0, none⟩) nb nb)
  obtain ⟨u0, u1⟩ := box2 (u := .slice (some ⟨g, 0, none⟩) np np) (v := .slice (some ⟨h, 0, none⟩) nb nb) w 32
  have uB := alloc_below w (.cells #[.slice (some ⟨g, 0, none⟩) np np, .slice (some ⟨h, 0, none⟩) nb nb] 32)
  have uL := alloc_lt w (.cells #[.slice (some ⟨g, 0, none⟩) np np, .slice (some ⟨h, 0, none⟩) nb nb] 32)
  have uS : (w.alloc (.cells #[.slice (some ⟨g, 0, none⟩) np np, .slice (some ⟨h, 0, none⟩) nb nb] 32)).heap.size = w.heap.size + 1 := by simp
  generalize w.alloc (.cells #[.slice (some ⟨g, 0, none⟩) np np, .slice (some ⟨h, 0, none⟩) nb nb] 32) = W1 at *
  obtain ⟨y0, y1, y2, y3⟩ := box4 (p := pt) W1 46
  have yB := alloc_below W1 (.cells #[.bool pt.s, .int .i64 pt.H.toInt, .int .i64 pt.L.toInt, .int .i64 pt.b] 46)
  have yL := alloc_lt W1 (.cells #[.bool pt.s, .int .i64 pt.H.toInt, .int .i64 pt.L.toInt, .int .i64 pt.b] 46)
  have yS : (W1.alloc (.cells #[.bool pt.s, .int .i64 pt.H.toInt, .int .i64 pt.L.toInt, .int .i64 pt.b] 46)).heap.size = W1.heap.size + 1 := by simp
  generalize W1.alloc (.cells #[.bool pt.s, .int .i64 pt.H.toInt, .int .i64 pt.L.toInt, .int .i64 pt.b] 46) = W2 at *
  rw [uS] at y0 y1 y2 y3 yL yS
  have kF := frz2 W2 32 (.slice none 0 0) (.slice none 0 0)
  obtain ⟨k0, k1⟩ := box2 (u := .slice none 0 0) (v := .slice none 0 0) W2 32
  have kB := alloc_below W2 (.cells #[.slice none 0 0, .slice none 0 0] 32)
  have kL := alloc_lt W2 (.cells #[.slice none 0 0, .slice none 0 0] 32)
  have kS : (W2.alloc (.cells #[.slice none 0 0, .slice none 0 0] 32)).heap.size = W2.heap.size + 1 := by simp
  generalize W2.alloc (.cells #[.slice none 0 0, .slice none 0 0] 32) = W3 at *
  rw [yS] at k0 k1 kL kS
  rw [yS] at kF
  have l0 : w.heap.size < W2.heap.size := by omega
  have l1 : w.heap.size + 1 < W2.heap.size := by omega
  have U0 := (kB.cell l0).trans ((yB.cell uL).trans u0)
  have U1 := (kB.cell l0).trans ((yB.cell uL).trans u1)
  have UF : ∀ o, W3.frozen? ⟨w.heap.size, o, none⟩ = false := fun o => (kB.frozen l0).trans ((yB.frozen uL).trans (uF o))
  have Y0 := (kB.cell l1).trans y0
  have Y1 := (kB.cell l1).trans y1
  have Y2 := (kB.cell l1).trans y2
  have Y3 := (kB.cell l1).trans y3
  have acc0 := hidP ((uB.trans (yB.mono uB.size)).trans (kB.mono (Nat.le_trans uB.size yB.size)))
  have UL : w.heap.size < W3.heap.size := by omega
  have YL : w.heap.size + 1 < W3.heap.size := by omega
  have kL3 : w.heap.size + 1 + 1 < W3.heap.size := by omega
  have UL9 := UL
  have kL9 := kL3
  clear uB yB kB uS yS kS u0 u1 y0 y1 y2 y3 uL yL kL uF l0 l1
  have U0c := U0
  have ac3_W3 := hidP (Below.refl W3.heap.size W3)
  refine (HOw.out _ acc0.out).mono ?_
  rintro e w4 ⟨a, c, b, d, rfl, op, ob, hne, hb4⟩
  have pb0_w4 := (hb4.cell UL).trans U0
  have pb1_w4 := (hb4.cell UL).trans U1
  have pbF_w4 : ∀ o, w4.frozen? ⟨w.heap.size, o, none⟩ = false := fun o => (hb4.frozen UL).trans (UF o)
  have pbL_w4 : w.heap.size < w4.heap.size := Nat.lt_of_lt_of_le UL hb4.size
  have at0_w4 := (hb4.cell YL).trans Y0
  have at1_w4 := (hb4.cell YL).trans Y1
  have at2_w4 := (hb4.cell YL).trans Y2
  have at3_w4 := (hb4.cell YL).trans Y3
  have atL_w4 : w.heap.size + 1 < w4.heap.size := Nat.lt_of_lt_of_le YL hb4.size
  have rs0_w4 := (hb4.cell kL3).trans k0
  have rs1_w4 := (hb4.cell kL3).trans k1
  have rsF_w4 : ∀ o, w4.frozen? ⟨w.heap.size + 1 + 1, o, none⟩ = false := fun o => (hb4.frozen kL3).trans (kF o)
  have rsL_w4 : w.heap.size + 1 + 1 < w4.heap.size := Nat.lt_of_lt_of_le kL3 hb4.size
  have acc_w4 := hidP (acc0.out.trans (hb4.mono acc0.out.size))
  have ac3_w4 := hidP (ac3_W3.out.trans (hb4.mono ac3_W3.out.size))
  have w43c := hb4.size
  have HLB4 := hidP (fun j hj => (OwnG.lt ob j hj).2)
  have oP_w4 := hidP op
  have oB_w4 := hidP ob
  have HNE := hidP hne
  clear UF U0 U1 UL Y0 Y1 Y2 Y3 YL kF k0 k1 kL3 acc0 ac3_W3 hb4 op ob hne
  go_wp2_with fail
  have oF := frz2 w4 32 (.slice a np c) (.slice b nb d)
  obtain ⟨o0, o1⟩ := box2 (u := .slice a np c) (v := .slice b nb d) w4 32
  have oB := alloc_below w4 (.cells #[.slice a np c, .slice b nb d] 32)
  have oL := alloc_lt w4 (.cells #[.slice a np c, .slice b nb d] 32)
  have oS : (w4.alloc (.cells #[.slice a np c, .slice b nb d] 32)).heap.size = w4.heap.size + 1 := by simp
  generalize w4.alloc (.cells #[.slice a np c, .slice b nb d] 32) = W5 at *
  have hb5 := oB
  have pb0_W5 := (hb5.cell pbL_w4).trans pb0_w4
  have pb1_W5 := (hb5.cell pbL_w4).trans pb1_w4
  have pbF_W5 : ∀ o, W5.frozen? ⟨w.heap.size, o, none⟩ = false := fun o => (hb5.frozen pbL_w4).trans (pbF_w4 o)
  have pbL_W5 : w.heap.size < W5.heap.size := Nat.lt_of_lt_of_le pbL_w4 hb5.size
  have at0_W5 := (hb5.cell atL_w4).trans at0_w4
  have at1_W5 := (hb5.cell atL_w4).trans at1_w4
  have at2_W5 := (hb5.cell atL_w4).trans at2_w4
  have at3_W5 := (hb5.cell atL_w4).trans at3_w4
  have atL_W5 : w.heap.size + 1 < W5.heap.size := Nat.lt_of_lt_of_le atL_w4 hb5.size
  have rs0_W5 := (hb5.cell rsL_w4).trans rs0_w4
  have rs1_W5 := (hb5.cell rsL_w4).trans rs1_w4
  have rsF_W5 : ∀ o, W5.frozen? ⟨w.heap.size + 1 + 1, o, none⟩ = false := fun o => (hb5.frozen rsL_w4).trans (rsF_w4 o)
  have rsL_W5 : w.heap.size + 1 + 1 < W5.heap.size := Nat.lt_of_lt_of_le rsL_w4 hb5.size
  have oP_W5 := hidP (OwnG.later oP_w4.out hb5)
  have oB_W5 := hidP (OwnG.later oB_w4.out hb5)
  have acc_W5 := hidP (acc_w4.out.trans (hb5.mono acc_w4.out.size))
  have ac3_W5 := hidP (ac3_w4.out.trans (hb5.mono ac3_w4.out.size))
  clear pbF_w4 pb0_w4 pb1_w4 pbL_w4 at0_w4 at1_w4 at2_w4 at3_w4 atL_w4 rsF_w4 rs0_w4 rs1_w4 rsL_w4 oP_w4 oB_w4 acc_w4 ac3_w4 hb5 oB oS
  refine (HPO.out _ acc_W5.out).mono ?_
  rintro e w6 ⟨rfl, hb6⟩
  have pb0_w6 := (hb6.cell pbL_W5).trans pb0_W5
  have pb1_w6 := (hb6.cell pbL_W5).trans pb1_W5
  have pbF_w6 : ∀ o, w6.frozen? ⟨w.heap.size, o, none⟩ = false := fun o => (hb6.frozen pbL_W5).trans (pbF_W5 o)
  have pbL_w6 : w.heap.size < w6.heap.size := Nat.lt_of_lt_of_le pbL_W5 hb6.size
  have at0_w6 := (hb6.cell atL_W5).trans at0_W5
  have at1_w6 := (hb6.cell atL_W5).trans at1_W5
  have at2_w6 := (hb6.cell atL_W5).trans at2_W5
  have at3_w6 := (hb6.cell atL_W5).trans at3_W5
  have atL_w6 : w.heap.size + 1 < w6.heap.size := Nat.lt_of_lt_of_le atL_W5 hb6.size
  have rs0_w6 := (hb6.cell rsL_W5).trans rs0_W5
  have rs1_w6 := (hb6.cell rsL_W5).trans rs1_W5
  have rsF_w6 : ∀ o, w6.frozen? ⟨w.heap.size + 1 + 1, o, none⟩ = false := fun o => (hb6.frozen rsL_W5).trans (rsF_W5 o)
  have rsL_w6 : w.heap.size + 1 + 1 < w6.heap.size := Nat.lt_of_lt_of_le rsL_W5 hb6.size
  have ot0_w6 := (hb6.cell oL).trans o0
  have ot1_w6 := (hb6.cell oL).trans o1
  have otF_w6 : ∀ o, w6.frozen? ⟨w4.heap.size, o, none⟩ = false := fun o => (hb6.frozen oL).trans (oF o)
  have otL_w6 : w4.heap.size < w6.heap.size := Nat.lt_of_lt_of_le oL hb6.size
  have oP_w6 := hidP (OwnG.later oP_W5.out hb6)
  have oB_w6 := hidP (OwnG.later oB_W5.out hb6)
  have acc_w6 := hidP (acc_W5.out.trans (hb6.mono acc_W5.out.size))
  have ac3_w6 := hidP (ac3_W5.out.trans (hb6.mono ac3_W5.out.size))
  clear pbF_W5 pb0_W5 pb1_W5 pbL_W5 at0_W5 at1_W5 at2_W5 at3_W5 atL_W5 rsF_W5 rs0_W5 rs1_W5 rsL_W5 oF o0 o1 oL oP_W5 oB_W5 acc_W5 ac3_W5 hb6
  go_wp2_with fail
  refine (HPk.out _).mono ?_
  rintro e w7 ⟨rfl, hb7⟩
  have pb0_w7 := (hb7.cell pbL_w6).trans pb0_w6
  have pb1_w7 := (hb7.cell pbL_w6).trans pb1_w6
  have pbF_w7 : ∀ o, w7.frozen? ⟨w.heap.size, o, none⟩ = false := fun o => (hb7.frozen pbL_w6).trans (pbF_w6 o)
  have pbL_w7 : w.heap.size < w7.heap.size := Nat.lt_of_lt_of_le pbL_w6 hb7.size
  have at0_w7 := (hb7.cell atL_w6).trans at0_w6
  have at1_w7 := (hb7.cell atL_w6).trans at1_w6
  have at2_w7 := (hb7.cell atL_w6).trans at2_w6
  have at3_w7 := (hb7.cell atL_w6).trans at3_w6
  have atL_w7 : w.heap.size + 1 < w7.heap.size := Nat.lt_of_lt_of_le atL_w6 hb7.size
  have rs0_w7 := (hb7.cell rsL_w6).trans rs0_w6
  have rs1_w7 := (hb7.cell rsL_w6).trans rs1_w6
  have rsF_w7 : ∀ o, w7.frozen? ⟨w.heap.size + 1 + 1, o, none⟩ = false := fun o => (hb7.frozen rsL_w6).trans (rsF_w6 o)
  have rsL_w7 : w.heap.size + 1 + 1 < w7.heap.size := Nat.lt_of_lt_of_le rsL_w6 hb7.size
  have ot0_w7 := (hb7.cell otL_w6).trans ot0_w6
  have ot1_w7 := (hb7.cell otL_w6).trans ot1_w6
  have otF_w7 : ∀ o, w7.frozen? ⟨w4.heap.size, o, none⟩ = false := fun o => (hb7.frozen otL_w6).trans (otF_w6 o)
  have otL_w7 : w4.heap.size < w7.heap.size := Nat.lt_of_lt_of_le otL_w6 hb7.size
  have oP_w7 := hidP (OwnG.later oP_w6.out hb7)
  have oB_w7 := hidP (OwnG.later oB_w6.out hb7)
  have acc_w7 := hidP (acc_w6.out.trans (hb7.mono acc_w6.out.size))
  have ac3_w7 := hidP (ac3_w6.out.trans (hb7.mono ac3_w6.out.size))
  clear pbF_w6 pb0_w6 pb1_w6 pbL_w6 at0_w6 at1_w6 at2_w6 at3_w6 atL_w6 rsF_w6 rs0_w6 rs1_w6 rsL_w6 otF_w6 ot0_w6 ot1_w6 otL_w6 oP_w6 oB_w6 acc_w6 ac3_w6 hb7
  go_wp2_with fail
  refine (HPl.out _ acc_w7.out).mono ?_
  rintro e w8 ⟨rfl, hb8⟩
  have pb0_w8 := (hb8.cell pbL_w7).trans pb0_w7
  have pb1_w8 := (hb8.cell pbL_w7).trans pb1_w7
  have pbF_w8 : ∀ o, w8.frozen? ⟨w.heap.size, o, none⟩ = false := fun o => (hb8.frozen pbL_w7).trans (pbF_w7 o)
  have pbL_w8 : w.heap.size < w8.heap.size := Nat.lt_of_lt_of_le pbL_w7 hb8.size
  have at0_w8 := (hb8.cell atL_w7).trans at0_w7
  have at1_w8 := (hb8.cell atL_w7).trans at1_w7
  have at2_w8 := (hb8.cell atL_w7).trans at2_w7
  have at3_w8 := (hb8.cell atL_w7).trans at3_w7
  have atL_w8 : w.heap.size + 1 < w8.heap.size := Nat.lt_of_lt_of_le atL_w7 hb8.size
  have rs0_w8 := (hb8.cell rsL_w7).trans rs0_w7
  have rs1_w8 := (hb8.cell rsL_w7).trans rs1_w7
  have rsF_w8 : ∀ o, w8.frozen? ⟨w.heap.size + 1 + 1, o, none⟩ = false := fun o => (hb8.frozen rsL_w7).trans (rsF_w7 o)
  have rsL_w8 : w.heap.size + 1 + 1 < w8.heap.size := Nat.lt_of_lt_of_le rsL_w7 hb8.size
  have ot0_w8 := (hb8.cell otL_w7).trans ot0_w7
  have ot1_w8 := (hb8.cell otL_w7).trans ot1_w7
  have otF_w8 : ∀ o, w8.frozen? ⟨w4.heap.size, o, none⟩ = false := fun o => (hb8.frozen otL_w7).trans (otF_w7 o)
  have otL_w8 : w4.heap.size < w8.heap.size := Nat.lt_of_lt_of_le otL_w7 hb8.size
  have oP_w8 := hidP (OwnG.later oP_w7.out hb8)
  have oB_w8 := hidP (OwnG.later oB_w7.out hb8)
  have acc_w8 := hidP (acc_w7.out.trans (hb8.mono acc_w7.out.size))
  have ac3_w8 := hidP (ac3_w7.out.trans (hb8.mono ac3_w7.out.size))
  clear pbF_w7 pb0_w7 pb1_w7 pbL_w7 at0_w7 at1_w7 at2_w7 at3_w7 atL_w7 rsF_w7 rs0_w7 rs1_w7 rsL_w7 otF_w7 ot0_w7 ot1_w7 otL_w7 oP_w7 oB_w7 acc_w7 ac3_w7 hb8
  go_wp2_with fail
  refine bodyPost_ret (v := .tuple #[.agg #[.slice a np c, .slice b nb d], .int .i64 4]) (by simp [results, Try.results21, go_sem, rs0_w8, rs1_w8]) rfl ⟨_, _, _, _, rfl, (OwnG.set2 oP_w8.out kL9).mono (Nat.le_of_lt UL9), (OwnG.set2 oB_w8.out kL9).mono (Nat.le_of_lt UL9), HNE.out, below_set2 acc_w8.out (by omega)⟩

set_option maxRecDepth 10000 in
set_option maxHeartbeats 4000000 in
theorem sDrop_d (pt : Pf) (g h : Nat) (np nb : Nat) (ps : List Pl) (bs : List Bk) (w : World) (hnp : np = ps.length) (hnb : nb = bs.length) (hP : RowG KPl w (some ⟨g, 0, none⟩) ps) (hK : RowG KBk w (some ⟨h, 0, none⟩) bs) (hl : np ≤ 1048576) (hl' : nb ≤ 1048576) (hst : ∀ q ∈ bs, q.t.size ≤ 9223372036854775807) (hr : planB ps bs = true) (hk : pt.pk = true) (i : Nat) (hp : plc pt ps = (i : Int)) (hu : 0 < (fil bs pt).length) :
    Calls Try.prog 21 #[.agg #[.slice (some ⟨g, 0, none⟩) np np, .slice (some ⟨h, 0, none⟩) nb nb], .agg #[.bool pt.s, .int .i64 pt.H.toInt, .int .i64 pt.L.toInt, .int .i64 pt.b]] w fun e w' => ∃ a c b d, e = .returned (.tuple #[.agg #[.slice a np c, .slice b nb d], .int .i64 (6)]) ∧ OwnG KPl 48 w' w.heap.size (.slice a np c) (ps) ∧ OwnG KBk 56 w' w.heap.size (.slice b nb d) (bs) ∧ (∀ k, (Value.slice a np c).ownBlock = some k → (Value.slice b nb d).ownBlock ≠ some k) ∧ Below w.heap.size w w' := by
  have HOw := hidP (fun W h' => l5Copy_any (some ⟨g, 0, none⟩) np np (some ⟨h, 0, none⟩) nb nb ps bs W hnp hnb (hP.later h') (hK.later h') (fun e => by cases e) (fun e => by cases e) hl hl')
  have HPO := hidP (fun W h' => sPlanOk_any (some ⟨g, 0, none⟩) np np (some ⟨h, 0, none⟩) nb nb ps bs W hnp hnb (hP.later h') (hK.later h') (by omega) (by omega) hst)
  have HPk := hidP (sPrefixOk_any pt.s pt.H pt.L pt.b)
  change Hid (∀ w, Calls Try.prog 41 _ w fun e w' => e = .returned (.bool pt.pk) ∧ Below w.heap.size w w') at HPk
  have hd : Dsj ps := (pools_dsj ps none (fun _ h => by cases h) (by have hr' := hr; unfold planB at hr'; rw [Bool.and_eq_true, Bool.and_eq_true (poolsF none ps)] at hr'; exact hr'.2.1)).1
  have HPl := hidP (fun W h' => l5Exact_any pt hk (some ⟨g, 0, none⟩) np np (some ⟨h, 0, none⟩) nb nb ps hd W hnp (hP.later h') (by omega))
  have HBI := hidP (fun W h' => l5Blocks_any pt (some ⟨g, 0, none⟩) np np (some ⟨h, 0, none⟩) nb nb bs W hnb (hK.later h') hl')
  have HN := hidP (And.intro hnp hnb)
  have HRP := hidP hP
  clear hP hK hnp hnb hst
  rw [hr] at HPO
  rw [hk] at HPk
  rw [hp] at HPl
  have gi : decide ((i : Int) < 0) = false := decide_eq_false (by omega)
  have gu : decide ((0 : Int) < ((fil bs pt).length : Int)) = true := decide_eq_true (by omega)
  have gu2 : decide (0 < (fil bs pt).length) = true := decide_eq_true hu
  go_enter Try.func21, Try.ntmps21
  go_wp2_with fail
  have uF := frz2 w 32 (.slice (some ⟨g, 0, none⟩) np np) (.slice (some ⟨h, 0, none⟩) nb nb)
  obtain ⟨u0, u1⟩ := box2 (u := .slice (some ⟨g, 0, none⟩) np np) (v := .slice (some ⟨h, 0, none⟩) nb nb) w 32
  have uB := alloc_below w (.cells #[.slice (some ⟨g, 0, none⟩) np np, .slice (some ⟨h, 0, none⟩) nb nb] 32)
  have uL := alloc_lt w (.cells #[.slice (some ⟨g, 0, none⟩) np np, .slice (some ⟨h, 0, none⟩) nb nb] 32)
  have uS : (w.alloc (.cells #[.slice (some ⟨g, 0, none⟩) np np, .slice (some ⟨h, 0, none⟩) nb nb] 32)).heap.size = w.heap.size + 1 := by simp
  generalize w.alloc (.cells #[.slice (some ⟨g, 0, none⟩) np np, .slice (some ⟨h, 0, none⟩) nb nb] 32) = W1 at *
  obtain ⟨y0, y1, y2, y3⟩ := box4 (p := pt) W1 46
  have yB := alloc_below W1 (.cells #[.bool pt.s, .int .i64 pt.H.toInt, .int .i64 pt.L.toInt, .int .i64 pt.b] 46)
  have yL := alloc_lt W1 (.cells #[.bool pt.s, .int .i64 pt.H.toInt, .int .i64 pt.L.toInt, .int .i64 pt.b] 46)
  have yS : (W1.alloc (.cells #[.bool pt.s, .int .i64 pt.H.toInt, .int .i64 pt.L.toInt, .int .i64 pt.b] 46)).heap.size = W1.heap.size + 1 := by simp
  generalize W1.alloc (.cells #[.bool pt.s, .int .i64 pt.H.toInt, .int .i64 pt.L.toInt, .int .i64 pt.b] 46) = W2 at *
  rw [uS] at y0 y1 y2 y3 yL yS
  have kF := frz2 W2 32 (.slice none 0 0) (.slice none 0 0)
  obtain ⟨k0, k1⟩ := box2 (u := .slice none 0 0) (v := .slice none 0 0) W2 32
  have kB := alloc_below W2 (.cells #[.slice none 0 0, .slice none 0 0] 32)
  have kL := alloc_lt W2 (.cells #[.slice none 0 0, .slice none 0 0] 32)
  have kS : (W2.alloc (.cells #[.slice none 0 0, .slice none 0 0] 32)).heap.size = W2.heap.size + 1 := by simp
  generalize W2.alloc (.cells #[.slice none 0 0, .slice none 0 0] 32) = W3 at *
  rw [yS] at k0 k1 kL kS
  rw [yS] at kF
  have l0 : w.heap.size < W2.heap.size := by omega
  have l1 : w.heap.size + 1 < W2.heap.size := by omega
  have U0 := (kB.cell l0).trans ((yB.cell uL).trans u0)
  have U1 := (kB.cell l0).trans ((yB.cell uL).trans u1)
  have UF : ∀ o, W3.frozen? ⟨w.heap.size, o, none⟩ = false := fun o => (kB.frozen l0).trans ((yB.frozen uL).trans (uF o))
  have Y0 := (kB.cell l1).trans y0
  have Y1 := (kB.cell l1).trans y1
  have Y2 := (kB.cell l1).trans y2
  have Y3 := (kB.cell l1).trans y3
  have acc0 := hidP ((uB.trans (yB.mono uB.size)).trans (kB.mono (Nat.le_trans uB.size yB.size)))
  have UL : w.heap.size < W3.heap.size := by omega
  have YL : w.heap.size + 1 < W3.heap.size := by omega
  have kL3 : w.heap.size + 1 + 1 < W3.heap.size := by omega
  have UL9 := UL
  have kL9 := kL3
  clear uB yB kB uS yS kS u0 u1 y0 y1 y2 y3 uL yL kL uF l0 l1
  have U0c := U0
  have ac3_W3 := hidP (Below.refl W3.heap.size W3)
  refine (HOw.out _ acc0.out).mono ?_
  rintro e w4 ⟨a, c, b, d, rfl, op, ob, hne, hb4⟩
  have pb0_w4 := (hb4.cell UL).trans U0
  have pb1_w4 := (hb4.cell UL).trans U1
  have pbF_w4 : ∀ o, w4.frozen? ⟨w.heap.size, o, none⟩ = false := fun o => (hb4.frozen UL).trans (UF o)
  have pbL_w4 : w.heap.size < w4.heap.size := Nat.lt_of_lt_of_le UL hb4.size
  have at0_w4 := (hb4.cell YL).trans Y0
  have at1_w4 := (hb4.cell YL).trans Y1
  have at2_w4 := (hb4.cell YL).trans Y2
  have at3_w4 := (hb4.cell YL).trans Y3
  have atL_w4 : w.heap.size + 1 < w4.heap.size := Nat.lt_of_lt_of_le YL hb4.size
  have rs0_w4 := (hb4.cell kL3).trans k0
  have rs1_w4 := (hb4.cell kL3).trans k1
  have rsF_w4 : ∀ o, w4.frozen? ⟨w.heap.size + 1 + 1, o, none⟩ = false := fun o => (hb4.frozen kL3).trans (kF o)
  have rsL_w4 : w.heap.size + 1 + 1 < w4.heap.size := Nat.lt_of_lt_of_le kL3 hb4.size
  have acc_w4 := hidP (acc0.out.trans (hb4.mono acc0.out.size))
  have ac3_w4 := hidP (ac3_W3.out.trans (hb4.mono ac3_W3.out.size))
  have w43c := hb4.size
  have HLB4 := hidP (fun j hj => (OwnG.lt ob j hj).2)
  have oP_w4 := hidP op
  have oB_w4 := hidP ob
  have HNE := hidP hne
  clear UF U0 U1 UL Y0 Y1 Y2 Y3 YL kF k0 k1 kL3 acc0 ac3_W3 hb4 op ob hne
  go_wp2_with fail
  have oF := frz2 w4 32 (.slice a np c) (.slice b nb d)
  obtain ⟨o0, o1⟩ := box2 (u := .slice a np c) (v := .slice b nb d) w4 32
  have oB := alloc_below w4 (.cells #[.slice a np c, .slice b nb d] 32)
  have oL := alloc_lt w4 (.cells #[.slice a np c, .slice b nb d] 32)
  have oS : (w4.alloc (.cells #[.slice a np c, .slice b nb d] 32)).heap.size = w4.heap.size + 1 := by simp
  generalize w4.alloc (.cells #[.slice a np c, .slice b nb d] 32) = W5 at *
  have hb5 := oB
  have pb0_W5 := (hb5.cell pbL_w4).trans pb0_w4
  have pb1_W5 := (hb5.cell pbL_w4).trans pb1_w4
  have pbF_W5 : ∀ o, W5.frozen? ⟨w.heap.size, o, none⟩ = false := fun o => (hb5.frozen pbL_w4).trans (pbF_w4 o)
  have pbL_W5 : w.heap.size < W5.heap.size := Nat.lt_of_lt_of_le pbL_w4 hb5.size
  have at0_W5 := (hb5.cell atL_w4).trans at0_w4
  have at1_W5 := (hb5.cell atL_w4).trans at1_w4
  have at2_W5 := (hb5.cell atL_w4).trans at2_w4
  have at3_W5 := (hb5.cell atL_w4).trans at3_w4
  have atL_W5 : w.heap.size + 1 < W5.heap.size := Nat.lt_of_lt_of_le atL_w4 hb5.size
  have rs0_W5 := (hb5.cell rsL_w4).trans rs0_w4
  have rs1_W5 := (hb5.cell rsL_w4).trans rs1_w4
  have rsF_W5 : ∀ o, W5.frozen? ⟨w.heap.size + 1 + 1, o, none⟩ = false := fun o => (hb5.frozen rsL_w4).trans (rsF_w4 o)
  have rsL_W5 : w.heap.size + 1 + 1 < W5.heap.size := Nat.lt_of_lt_of_le rsL_w4 hb5.size
  have oP_W5 := hidP (OwnG.later oP_w4.out hb5)
  have oB_W5 := hidP (OwnG.later oB_w4.out hb5)
  have acc_W5 := hidP (acc_w4.out.trans (hb5.mono acc_w4.out.size))
  have ac3_W5 := hidP (ac3_w4.out.trans (hb5.mono ac3_w4.out.size))
  clear pbF_w4 pb0_w4 pb1_w4 pbL_w4 at0_w4 at1_w4 at2_w4 at3_w4 atL_w4 rsF_w4 rs0_w4 rs1_w4 rsL_w4 oP_w4 oB_w4 acc_w4 ac3_w4 hb5 oB oS
  refine (HPO.out _ acc_W5.out).mono ?_
  rintro e w6 ⟨rfl, hb6⟩
  have pb0_w6 := (hb6.cell pbL_W5).trans pb0_W5
  have pb1_w6 := (hb6.cell pbL_W5).trans pb1_W5
  have pbF_w6 : ∀ o, w6.frozen? ⟨w.heap.size, o, none⟩ = false := fun o => (hb6.frozen pbL_W5).trans (pbF_W5 o)
  have pbL_w6 : w.heap.size < w6.heap.size := Nat.lt_of_lt_of_le pbL_W5 hb6.size
  have at0_w6 := (hb6.cell atL_W5).trans at0_W5
  have at1_w6 := (hb6.cell atL_W5).trans at1_W5
  have at2_w6 := (hb6.cell atL_W5).trans at2_W5
  have at3_w6 := (hb6.cell atL_W5).trans at3_W5
  have atL_w6 : w.heap.size + 1 < w6.heap.size := Nat.lt_of_lt_of_le atL_W5 hb6.size
  have rs0_w6 := (hb6.cell rsL_W5).trans rs0_W5
  have rs1_w6 := (hb6.cell rsL_W5).trans rs1_W5
  have rsF_w6 : ∀ o, w6.frozen? ⟨w.heap.size + 1 + 1, o, none⟩ = false := fun o => (hb6.frozen rsL_W5).trans (rsF_W5 o)
  have rsL_w6 : w.heap.size + 1 + 1 < w6.heap.size := Nat.lt_of_lt_of_le rsL_W5 hb6.size
  have ot0_w6 := (hb6.cell oL).trans o0
  have ot1_w6 := (hb6.cell oL).trans o1
  have otF_w6 : ∀ o, w6.frozen? ⟨w4.heap.size, o, none⟩ = false := fun o => (hb6.frozen oL).trans (oF o)
  have otL_w6 : w4.heap.size < w6.heap.size := Nat.lt_of_lt_of_le oL hb6.size
  have oP_w6 := hidP (OwnG.later oP_W5.out hb6)
  have oB_w6 := hidP (OwnG.later oB_W5.out hb6)
  have acc_w6 := hidP (acc_W5.out.trans (hb6.mono acc_W5.out.size))
  have ac3_w6 := hidP (ac3_W5.out.trans (hb6.mono ac3_W5.out.size))
  clear pbF_W5 pb0_W5 pb1_W5 pbL_W5 at0_W5 at1_W5 at2_W5 at3_W5 atL_W5 rsF_W5 rs0_W5 rs1_W5 rsL_W5 oF o0 o1 oL oP_W5 oB_W5 acc_W5 ac3_W5 hb6
  go_wp2_with fail
  refine (HPk.out _).mono ?_
  rintro e w7 ⟨rfl, hb7⟩
  have pb0_w7 := (hb7.cell pbL_w6).trans pb0_w6
  have pb1_w7 := (hb7.cell pbL_w6).trans pb1_w6
  have pbF_w7 : ∀ o, w7.frozen? ⟨w.heap.size, o, none⟩ = false := fun o => (hb7.frozen pbL_w6).trans (pbF_w6 o)
  have pbL_w7 : w.heap.size < w7.heap.size := Nat.lt_of_lt_of_le pbL_w6 hb7.size
  have at0_w7 := (hb7.cell atL_w6).trans at0_w6
  have at1_w7 := (hb7.cell atL_w6).trans at1_w6
  have at2_w7 := (hb7.cell atL_w6).trans at2_w6
  have at3_w7 := (hb7.cell atL_w6).trans at3_w6
  have atL_w7 : w.heap.size + 1 < w7.heap.size := Nat.lt_of_lt_of_le atL_w6 hb7.size
  have rs0_w7 := (hb7.cell rsL_w6).trans rs0_w6
  have rs1_w7 := (hb7.cell rsL_w6).trans rs1_w6
  have rsF_w7 : ∀ o, w7.frozen? ⟨w.heap.size + 1 + 1, o, none⟩ = false := fun o => (hb7.frozen rsL_w6).trans (rsF_w6 o)
  have rsL_w7 : w.heap.size + 1 + 1 < w7.heap.size := Nat.lt_of_lt_of_le rsL_w6 hb7.size
  have ot0_w7 := (hb7.cell otL_w6).trans ot0_w6
  have ot1_w7 := (hb7.cell otL_w6).trans ot1_w6
  have otF_w7 : ∀ o, w7.frozen? ⟨w4.heap.size, o, none⟩ = false := fun o => (hb7.frozen otL_w6).trans (otF_w6 o)
  have otL_w7 : w4.heap.size < w7.heap.size := Nat.lt_of_lt_of_le otL_w6 hb7.size
  have oP_w7 := hidP (OwnG.later oP_w6.out hb7)
  have oB_w7 := hidP (OwnG.later oB_w6.out hb7)
  have acc_w7 := hidP (acc_w6.out.trans (hb7.mono acc_w6.out.size))
  have ac3_w7 := hidP (ac3_w6.out.trans (hb7.mono ac3_w6.out.size))
  clear pbF_w6 pb0_w6 pb1_w6 pbL_w6 at0_w6 at1_w6 at2_w6 at3_w6 atL_w6 rsF_w6 rs0_w6 rs1_w6 rsL_w6 otF_w6 ot0_w6 ot1_w6 otL_w6 oP_w6 oB_w6 acc_w6 ac3_w6 hb7
  go_wp2_with fail
  refine (HPl.out _ acc_w7.out).mono ?_
  rintro e w8 ⟨rfl, hb8⟩
  have pb0_w8 := (hb8.cell pbL_w7).trans pb0_w7
  have pb1_w8 := (hb8.cell pbL_w7).trans pb1_w7
  have pbF_w8 : ∀ o, w8.frozen? ⟨w.heap.size, o, none⟩ = false := fun o => (hb8.frozen pbL_w7).trans (pbF_w7 o)
  have pbL_w8 : w.heap.size < w8.heap.size := Nat.lt_of_lt_of_le pbL_w7 hb8.size
  have at0_w8 := (hb8.cell atL_w7).trans at0_w7
  have at1_w8 := (hb8.cell atL_w7).trans at1_w7
  have at2_w8 := (hb8.cell atL_w7).trans at2_w7
  have at3_w8 := (hb8.cell atL_w7).trans at3_w7
  have atL_w8 : w.heap.size + 1 < w8.heap.size := Nat.lt_of_lt_of_le atL_w7 hb8.size
  have rs0_w8 := (hb8.cell rsL_w7).trans rs0_w7
  have rs1_w8 := (hb8.cell rsL_w7).trans rs1_w7
  have rsF_w8 : ∀ o, w8.frozen? ⟨w.heap.size + 1 + 1, o, none⟩ = false := fun o => (hb8.frozen rsL_w7).trans (rsF_w7 o)
  have rsL_w8 : w.heap.size + 1 + 1 < w8.heap.size := Nat.lt_of_lt_of_le rsL_w7 hb8.size
  have ot0_w8 := (hb8.cell otL_w7).trans ot0_w7
  have ot1_w8 := (hb8.cell otL_w7).trans ot1_w7
  have otF_w8 : ∀ o, w8.frozen? ⟨w4.heap.size, o, none⟩ = false := fun o => (hb8.frozen otL_w7).trans (otF_w7 o)
  have otL_w8 : w4.heap.size < w8.heap.size := Nat.lt_of_lt_of_le otL_w7 hb8.size
  have oP_w8 := hidP (OwnG.later oP_w7.out hb8)
  have oB_w8 := hidP (OwnG.later oB_w7.out hb8)
  have acc_w8 := hidP (acc_w7.out.trans (hb8.mono acc_w7.out.size))
  have ac3_w8 := hidP (ac3_w7.out.trans (hb8.mono ac3_w7.out.size))
  clear pbF_w7 pb0_w7 pb1_w7 pbL_w7 at0_w7 at1_w7 at2_w7 at3_w7 atL_w7 rsF_w7 rs0_w7 rs1_w7 rsL_w7 otF_w7 ot0_w7 ot1_w7 otL_w7 oP_w7 oB_w7 acc_w7 ac3_w7 hb8
  go_wp2_with fail
  refine (HBI.out _ acc_w8.out).mono ?_
  rintro e w9 ⟨a9, c9, rfl, _, hb9⟩
  have pb0_w9 := (hb9.cell pbL_w8).trans pb0_w8
  have pb1_w9 := (hb9.cell pbL_w8).trans pb1_w8
  have pbF_w9 : ∀ o, w9.frozen? ⟨w.heap.size, o, none⟩ = false := fun o => (hb9.frozen pbL_w8).trans (pbF_w8 o)
  have pbL_w9 : w.heap.size < w9.heap.size := Nat.lt_of_lt_of_le pbL_w8 hb9.size
  have at0_w9 := (hb9.cell atL_w8).trans at0_w8
  have at1_w9 := (hb9.cell atL_w8).trans at1_w8
  have at2_w9 := (hb9.cell atL_w8).trans at2_w8
  have at3_w9 := (hb9.cell atL_w8).trans at3_w8
  have atL_w9 : w.heap.size + 1 < w9.heap.size := Nat.lt_of_lt_of_le atL_w8 hb9.size
  have rs0_w9 := (hb9.cell rsL_w8).trans rs0_w8
  have rs1_w9 := (hb9.cell rsL_w8).trans rs1_w8
  have rsF_w9 : ∀ o, w9.frozen? ⟨w.heap.size + 1 + 1, o, none⟩ = false := fun o => (hb9.frozen rsL_w8).trans (rsF_w8 o)
  have rsL_w9 : w.heap.size + 1 + 1 < w9.heap.size := Nat.lt_of_lt_of_le rsL_w8 hb9.size
  have ot0_w9 := (hb9.cell otL_w8).trans ot0_w8
  have ot1_w9 := (hb9.cell otL_w8).trans ot1_w8
  have otF_w9 : ∀ o, w9.frozen? ⟨w4.heap.size, o, none⟩ = false := fun o => (hb9.frozen otL_w8).trans (otF_w8 o)
  have otL_w9 : w4.heap.size < w9.heap.size := Nat.lt_of_lt_of_le otL_w8 hb9.size
  have oP_w9 := hidP (OwnG.later oP_w8.out hb9)
  have oB_w9 := hidP (OwnG.later oB_w8.out hb9)
  have acc_w9 := hidP (acc_w8.out.trans (hb9.mono acc_w8.out.size))
  have ac3_w9 := hidP (ac3_w8.out.trans (hb9.mono ac3_w8.out.size))
  clear pbF_w8 pb0_w8 pb1_w8 pbL_w8 at0_w8 at1_w8 at2_w8 at3_w8 atL_w8 rsF_w8 rs0_w8 rs1_w8 rsL_w8 otF_w8 ot0_w8 ot1_w8 otL_w8 oP_w8 oB_w8 acc_w8 ac3_w8 hb9
  generalize (fil bs pt).length = F at *
  go_wp2_with fail
  refine bodyPost_ret (v := .tuple #[.agg #[.slice a np c, .slice b nb d], .int .i64 6]) (by simp [results, Try.results21, go_sem, rs0_w9, rs1_w9]) rfl ⟨_, _, _, _, rfl, (OwnG.set2 oP_w9.out kL9).mono (Nat.le_of_lt UL9), (OwnG.set2 oB_w9.out kL9).mono (Nat.le_of_lt UL9), HNE.out, below_set2 acc_w9.out (by omega)⟩

end Go.Proofs.Ythbpehpnikknlaa

namespace Go.Proofs.Ythbpehpnikknlaa
open Go.RowKit

set_option maxRecDepth 10000 in
set_option maxHeartbeats 4000000 in
theorem sDrop_e0 (pt : Pf) (g h : Nat) (np nb : Nat) (ps : List Pl) (bs : List Bk) (w : World) (hnp : np = ps.length) (hnb : nb = bs.length) (hP : RowG KPl w (some ⟨g, 0, none⟩) ps) (hK : RowG KBk w (some ⟨h, 0, none⟩) bs) (hl : np ≤ 1048576) (hl' : nb ≤ 1048576) (hst : ∀ q ∈ bs, q.t.size ≤ 9223372036854775807) (hr : planB ps bs = true) (hk : pt.pk = true) (i : Nat) (hi : i < np) (hcj : np = i + 1) (hp : plc pt ps = (i : Int)) (hu : (fil bs pt).length = 0) :
    Calls Try.prog 21 #[.agg #[.slice (some ⟨g, 0, none⟩) np np, .slice (some ⟨h, 0, none⟩) nb nb], .agg #[.bool pt.s, .int .i64 pt.H.toInt, .int .i64 pt.L.toInt, .int .i64 pt.b]] w fun e w' => ∃ a c b d, e = .returned (.tuple #[.agg #[.slice a (np - 1) c, .slice b nb d], .int .i64 (0)]) ∧ OwnG KPl 48 w' w.heap.size (.slice a (np - 1) c) (ps.eraseIdx i) ∧ OwnG KBk 56 w' w.heap.size (.slice b nb d) (bs) ∧ (∀ k, (Value.slice a (np - 1) c).ownBlock = some k → (Value.slice b nb d).ownBlock ≠ some k) ∧ Below w.heap.size w w' := by
  have HOw := hidP (fun W h' => l5Copy_any (some ⟨g, 0, none⟩) np np (some ⟨h, 0, none⟩) nb nb ps bs W hnp hnb (hP.later h') (hK.later h') (fun e => by cases e) (fun e => by cases e) hl hl')
  have HPO := hidP (fun W h' => sPlanOk_any (some ⟨g, 0, none⟩) np np (some ⟨h, 0, none⟩) nb nb ps bs W hnp hnb (hP.later h') (hK.later h') (by omega) (by omega) hst)
  have HPk := hidP (sPrefixOk_any pt.s pt.H pt.L pt.b)
  change Hid (∀ w, Calls Try.prog 41 _ w fun e w' => e = .returned (.bool pt.pk) ∧ Below w.heap.size w w') at HPk
  have hd : Dsj ps := (pools_dsj ps none (fun _ h => by cases h) (by have hr' := hr; unfold planB at hr'; rw [Bool.and_eq_true, Bool.and_eq_true (poolsF none ps)] at hr'; exact hr'.2.1)).1
  have HPl := hidP (fun W h' => l5Exact_any pt hk (some ⟨g, 0, none⟩) np np (some ⟨h, 0, none⟩) nb nb ps hd W hnp (hP.later h') (by omega))
  have HBI := hidP (fun W h' => l5Blocks_any pt (some ⟨g, 0, none⟩) np np (some ⟨h, 0, none⟩) nb nb bs W hnb (hK.later h') hl')
  have HN := hidP (And.intro hnp hnb)
  have HRP := hidP hP
  clear hP hK hnp hnb hst
  rw [hr] at HPO
  rw [hk] at HPk
  rw [hp] at HPl
  rw [hu] at HBI
  have gi : decide ((i : Int) < 0) = false := decide_eq_false (by omega)
  have wi : IntKind.i64.wrap ((i : Int) + 1) = (i : Int) + 1 := by rw [IntKind.wrap_i64]; omega
  have b1 : (i : Int) ≤ (np : Int) := by omega
  have b3 : (0 : Int) ≤ (i : Int) + 1 := by omega
  have b4 : (i : Int) + 1 ≤ (np : Int) := by omega
  have hl1 : (ps.take i).length = i := by rw [List.length_take]; have := HN.out; omega
  have hl2 : (ps.drop (i + 1)).length = np - (i + 1) := by rw [List.length_drop, HN.out.1]
  have HL := hidP (And.intro hl1 hl2)
  clear hl1 hl2
  subst hcj
  have b2 : (i : Int) ≤ (i : Int) + 1 := by omega
  go_enter Try.func21, Try.ntmps21
  go_wp2_with fail
  have uF := frz2 w 32 (.slice (some ⟨g, 0, none⟩) (i + 1) (i + 1)) (.slice (some ⟨h, 0, none⟩) nb nb)
  obtain ⟨u0, u1⟩ := box2 (u := .slice (some ⟨g, 0, none⟩) (i + 1) (i + 1)) (v := .slice (some ⟨h, 0, none⟩) nb nb) w 32
  have uB := alloc_below w (.cells #[.slice (some ⟨g, 0, none⟩) (i + 1) (i + 1), .slice (some ⟨h, 0, none⟩) nb nb] 32)
  have uL := alloc_lt w (.cells #[.slice (some ⟨g, 0, none⟩) (i + 1) (i + 1), .slice (some ⟨h, 0, none⟩) nb nb] 32)
  have uS : (w.alloc (.cells #[.slice (some ⟨g, 0, none⟩) (i + 1) (i + 1), .slice (some ⟨h, 0, none⟩) nb nb] 32)).heap.size = w.heap.size + 1 := by simp
  generalize w.alloc (.cells #[.slice (some ⟨g, 0, none⟩) (i + 1) (i + 1), .slice (some ⟨h, 0, none⟩) nb nb] 32) = W1 at *
  obtain ⟨y0, y1, y2, y3⟩ := box4 (p := pt) W1 46
  have yB := alloc_below W1 (.cells #[.bool pt.s, .int .i64 pt.H.toInt, .int .i64 pt.L.toInt, .int .i64 pt.b] 46)
  have yL := alloc_lt W1 (.cells #[.bool pt.s, .int .i64 pt.H.toInt, .int .i64 pt.L.toInt, .int .i64 pt.b] 46)
  have yS : (W1.alloc (.cells #[.bool pt.s, .int .i64 pt.H.toInt, .int .i64 pt.L.toInt, .int .i64 pt.b] 46)).heap.size = W1.heap.size + 1 := by simp
  generalize W1.alloc (.cells #[.bool pt.s, .int .i64 pt.H.toInt, .int .i64 pt.L.toInt, .int .i64 pt.b] 46) = W2 at *
  rw [uS] at y0 y1 y2 y3 yL yS
  have kF := frz2 W2 32 (.slice none 0 0) (.slice none 0 0)
  obtain ⟨k0, k1⟩ := box2 (u := .slice none 0 0) (v := .slice none 0 0) W2 32
  have kB := alloc_below W2 (.cells #[.slice none 0 0, .slice none 0 0] 32)
  have kL := alloc_lt W2 (.cells #[.slice none 0 0, .slice none 0 0] 32)
  have kS : (W2.alloc (.cells #[.slice none 0 0, .slice none 0 0] 32)).heap.size = W2.heap.size + 1 := by simp
  generalize W2.alloc (.cells #[.slice none 0 0, .slice none 0 0] 32) = W3 at *
  rw [yS] at k0 k1 kL kS
  rw [yS] at kF
  have l0 : w.heap.size < W2.heap.size := by omega
  have l1 : w.heap.size + 1 < W2.heap.size := by omega
  have U0 := (kB.cell l0).trans ((yB.cell uL).trans u0)
  have U1 := (kB.cell l0).trans ((yB.cell uL).trans u1)
  have UF : ∀ o, W3.frozen? ⟨w.heap.size, o, none⟩ = false := fun o => (kB.frozen l0).trans ((yB.frozen uL).trans (uF o))
  have Y0 := (kB.cell l1).trans y0
  have Y1 := (kB.cell l1).trans y1
  have Y2 := (kB.cell l1).trans y2
  have Y3 := (kB.cell l1).trans y3
  have acc0 := hidP ((uB.trans (yB.mono uB.size)).trans (kB.mono (Nat.le_trans uB.size yB.size)))
  have UL : w.heap.size < W3.heap.size := by omega
  have YL : w.heap.size + 1 < W3.heap.size := by omega
  have kL3 : w.heap.size + 1 + 1 < W3.heap.size := by omega
  have UL9 := UL
  have kL9 := kL3
  clear uB yB kB uS yS kS u0 u1 y0 y1 y2 y3 uL yL kL uF l0 l1
  have U0c := U0
  have ac3_W3 := hidP (Below.refl W3.heap.size W3)
  refine (HOw.out _ acc0.out).mono ?_
  rintro e w4 ⟨a, c, b, d, rfl, op, ob, hne, hb4⟩
  have pb0_w4 := (hb4.cell UL).trans U0
  have pb1_w4 := (hb4.cell UL).trans U1
  have pbF_w4 : ∀ o, w4.frozen? ⟨w.heap.size, o, none⟩ = false := fun o => (hb4.frozen UL).trans (UF o)
  have pbL_w4 : w.heap.size < w4.heap.size := Nat.lt_of_lt_of_le UL hb4.size
  have at0_w4 := (hb4.cell YL).trans Y0
  have at1_w4 := (hb4.cell YL).trans Y1
  have at2_w4 := (hb4.cell YL).trans Y2
  have at3_w4 := (hb4.cell YL).trans Y3
  have atL_w4 : w.heap.size + 1 < w4.heap.size := Nat.lt_of_lt_of_le YL hb4.size
  have rs0_w4 := (hb4.cell kL3).trans k0
  have rs1_w4 := (hb4.cell kL3).trans k1
  have rsF_w4 : ∀ o, w4.frozen? ⟨w.heap.size + 1 + 1, o, none⟩ = false := fun o => (hb4.frozen kL3).trans (kF o)
  have rsL_w4 : w.heap.size + 1 + 1 < w4.heap.size := Nat.lt_of_lt_of_le kL3 hb4.size
  have acc_w4 := hidP (acc0.out.trans (hb4.mono acc0.out.size))
  have ac3_w4 := hidP (ac3_W3.out.trans (hb4.mono ac3_W3.out.size))
  have w43c := hb4.size
  have HLB4 := hidP (fun j hj => (OwnG.lt ob j hj).2)
  have oP_w4 := hidP op
  have oB_w4 := hidP ob
  have HNE := hidP hne
  clear UF U0 U1 UL Y0 Y1 Y2 Y3 YL kF k0 k1 kL3 acc0 ac3_W3 hb4 op ob hne
  go_wp2_with fail
  have oF := frz2 w4 32 (.slice a (i + 1) c) (.slice b nb d)
  obtain ⟨o0, o1⟩ := box2 (u := .slice a (i + 1) c) (v := .slice b nb d) w4 32
  have oB := alloc_below w4 (.cells #[.slice a (i + 1) c, .slice b nb d] 32)
  have oL := alloc_lt w4 (.cells #[.slice a (i + 1) c, .slice b nb d] 32)
  have oS : (w4.alloc (.cells #[.slice a (i + 1) c, .slice b nb d] 32)).heap.size = w4.heap.size + 1 := by simp
  generalize w4.alloc (.cells #[.slice a (i + 1) c, .slice b nb d] 32) = W5 at *
  have hb5 := oB
  have pb0_W5 := (hb5.cell pbL_w4).trans pb0_w4
  have pb1_W5 := (hb5.cell pbL_w4).trans pb1_w4
  have pbF_W5 : ∀ o, W5.frozen? ⟨w.heap.size, o, none⟩ = false := fun o => (hb5.frozen pbL_w4).trans (pbF_w4 o)
  have pbL_W5 : w.heap.size < W5.heap.size := Nat.lt_of_lt_of_le pbL_w4 hb5.size
  have at0_W5 := (hb5.cell atL_w4).trans at0_w4
  have at1_W5 := (hb5.cell atL_w4).trans at1_w4
  have at2_W5 := (hb5.cell atL_w4).trans at2_w4
  have at3_W5 := (hb5.cell atL_w4).trans at3_w4
  have atL_W5 : w.heap.size + 1 < W5.heap.size := Nat.lt_of_lt_of_le atL_w4 hb5.size
  have rs0_W5 := (hb5.cell rsL_w4).trans rs0_w4
  have rs1_W5 := (hb5.cell rsL_w4).trans rs1_w4
  have rsF_W5 : ∀ o, W5.frozen? ⟨w.heap.size + 1 + 1, o, none⟩ = false := fun o => (hb5.frozen rsL_w4).trans (rsF_w4 o)
  have rsL_W5 : w.heap.size + 1 + 1 < W5.heap.size := Nat.lt_of_lt_of_le rsL_w4 hb5.size
  have oP_W5 := hidP (OwnG.later oP_w4.out hb5)
  have oB_W5 := hidP (OwnG.later oB_w4.out hb5)
  have acc_W5 := hidP (acc_w4.out.trans (hb5.mono acc_w4.out.size))
  have ac3_W5 := hidP (ac3_w4.out.trans (hb5.mono ac3_w4.out.size))
  clear pbF_w4 pb0_w4 pb1_w4 pbL_w4 at0_w4 at1_w4 at2_w4 at3_w4 atL_w4 rsF_w4 rs0_w4 rs1_w4 rsL_w4 oP_w4 oB_w4 acc_w4 ac3_w4 hb5 oB oS
  refine (HPO.out _ acc_W5.out).mono ?_
  rintro e w6 ⟨rfl, hb6⟩
  have pb0_w6 := (hb6.cell pbL_W5).trans pb0_W5
  have pb1_w6 := (hb6.cell pbL_W5).trans pb1_W5
  have pbF_w6 : ∀ o, w6.frozen? ⟨w.heap.size, o, none⟩ = false := fun o => (hb6.frozen pbL_W5).trans (pbF_W5 o)
  have pbL_w6 : w.heap.size < w6.heap.size := Nat.lt_of_lt_of_le pbL_W5 hb6.size
  have at0_w6 := (hb6.cell atL_W5).trans at0_W5
  have at1_w6 := (hb6.cell atL_W5).trans at1_W5
  have at2_w6 := (hb6.cell atL_W5).trans at2_W5
  have at3_w6 := (hb6.cell atL_W5).trans at3_W5
  have atL_w6 : w.heap.size + 1 < w6.heap.size := Nat.lt_of_lt_of_le atL_W5 hb6.size
  have rs0_w6 := (hb6.cell rsL_W5).trans rs0_W5
  have rs1_w6 := (hb6.cell rsL_W5).trans rs1_W5
  have rsF_w6 : ∀ o, w6.frozen? ⟨w.heap.size + 1 + 1, o, none⟩ = false := fun o => (hb6.frozen rsL_W5).trans (rsF_W5 o)
  have rsL_w6 : w.heap.size + 1 + 1 < w6.heap.size := Nat.lt_of_lt_of_le rsL_W5 hb6.size
  have ot0_w6 := (hb6.cell oL).trans o0
  have ot1_w6 := (hb6.cell oL).trans o1
  have otF_w6 : ∀ o, w6.frozen? ⟨w4.heap.size, o, none⟩ = false := fun o => (hb6.frozen oL).trans (oF o)
  have otL_w6 : w4.heap.size < w6.heap.size := Nat.lt_of_lt_of_le oL hb6.size
  have oP_w6 := hidP (OwnG.later oP_W5.out hb6)
  have oB_w6 := hidP (OwnG.later oB_W5.out hb6)
  have acc_w6 := hidP (acc_W5.out.trans (hb6.mono acc_W5.out.size))
  have ac3_w6 := hidP (ac3_W5.out.trans (hb6.mono ac3_W5.out.size))
  clear pbF_W5 pb0_W5 pb1_W5 pbL_W5 at0_W5 at1_W5 at2_W5 at3_W5 atL_W5 rsF_W5 rs0_W5 rs1_W5 rsL_W5 oF o0 o1 oL oP_W5 oB_W5 acc_W5 ac3_W5 hb6
  go_wp2_with fail
  refine (HPk.out _).mono ?_
  rintro e w7 ⟨rfl, hb7⟩
  have pb0_w7 := (hb7.cell pbL_w6).trans pb0_w6
  have pb1_w7 := (hb7.cell pbL_w6).trans pb1_w6
  have pbF_w7 : ∀ o, w7.frozen? ⟨w.heap.size, o, none⟩ = false := fun o => (hb7.frozen pbL_w6).trans (pbF_w6 o)
  have pbL_w7 : w.heap.size < w7.heap.size := Nat.lt_of_lt_of_le pbL_w6 hb7.size
  have at0_w7 := (hb7.cell atL_w6).trans at0_w6
  have at1_w7 := (hb7.cell atL_w6).trans at1_w6
  have at2_w7 := (hb7.cell atL_w6).trans at2_w6
  have at3_w7 := (hb7.cell atL_w6).trans at3_w6
  have atL_w7 : w.heap.size + 1 < w7.heap.size := Nat.lt_of_lt_of_le atL_w6 hb7.size
  have rs0_w7 := (hb7.cell rsL_w6).trans rs0_w6
  have rs1_w7 := (hb7.cell rsL_w6).trans rs1_w6
  have rsF_w7 : ∀ o, w7.frozen? ⟨w.heap.size + 1 + 1, o, none⟩ = false := fun o => (hb7.frozen rsL_w6).trans (rsF_w6 o)
  have rsL_w7 : w.heap.size + 1 + 1 < w7.heap.size := Nat.lt_of_lt_of_le rsL_w6 hb7.size
  have ot0_w7 := (hb7.cell otL_w6).trans ot0_w6
  have ot1_w7 := (hb7.cell otL_w6).trans ot1_w6
  have otF_w7 : ∀ o, w7.frozen? ⟨w4.heap.size, o, none⟩ = false := fun o => (hb7.frozen otL_w6).trans (otF_w6 o)
  have otL_w7 : w4.heap.size < w7.heap.size := Nat.lt_of_lt_of_le otL_w6 hb7.size
  have oP_w7 := hidP (OwnG.later oP_w6.out hb7)
  have oB_w7 := hidP (OwnG.later oB_w6.out hb7)
  have acc_w7 := hidP (acc_w6.out.trans (hb7.mono acc_w6.out.size))
  have ac3_w7 := hidP (ac3_w6.out.trans (hb7.mono ac3_w6.out.size))
  clear pbF_w6 pb0_w6 pb1_w6 pbL_w6 at0_w6 at1_w6 at2_w6 at3_w6 atL_w6 rsF_w6 rs0_w6 rs1_w6 rsL_w6 otF_w6 ot0_w6 ot1_w6 otL_w6 oP_w6 oB_w6 acc_w6 ac3_w6 hb7
  go_wp2_with fail
  refine (HPl.out _ acc_w7.out).mono ?_
  rintro e w8 ⟨rfl, hb8⟩
  have pb0_w8 := (hb8.cell pbL_w7).trans pb0_w7
  have pb1_w8 := (hb8.cell pbL_w7).trans pb1_w7
  have pbF_w8 : ∀ o, w8.frozen? ⟨w.heap.size, o, none⟩ = false := fun o => (hb8.frozen pbL_w7).trans (pbF_w7 o)
  have pbL_w8 : w.heap.size < w8.heap.size := Nat.lt_of_lt_of_le pbL_w7 hb8.size
  have at0_w8 := (hb8.cell atL_w7).trans at0_w7
  have at1_w8 := (hb8.cell atL_w7).trans at1_w7
  have at2_w8 := (hb8.cell atL_w7).trans at2_w7
  have at3_w8 := (hb8.cell atL_w7).trans at3_w7
  have atL_w8 : w.heap.size + 1 < w8.heap.size := Nat.lt_of_lt_of_le atL_w7 hb8.size
  have rs0_w8 := (hb8.cell rsL_w7).trans rs0_w7
  have rs1_w8 := (hb8.cell rsL_w7).trans rs1_w7
  have rsF_w8 : ∀ o, w8.frozen? ⟨w.heap.size + 1 + 1, o, none⟩ = false := fun o => (hb8.frozen rsL_w7).trans (rsF_w7 o)
  have rsL_w8 : w.heap.size + 1 + 1 < w8.heap.size := Nat.lt_of_lt_of_le rsL_w7 hb8.size
  have ot0_w8 := (hb8.cell otL_w7).trans ot0_w7
  have ot1_w8 := (hb8.cell otL_w7).trans ot1_w7
  have otF_w8 : ∀ o, w8.frozen? ⟨w4.heap.size, o, none⟩ = false := fun o => (hb8.frozen otL_w7).trans (otF_w7 o)
  have otL_w8 : w4.heap.size < w8.heap.size := Nat.lt_of_lt_of_le otL_w7 hb8.size
  have oP_w8 := hidP (OwnG.later oP_w7.out hb8)
  have oB_w8 := hidP (OwnG.later oB_w7.out hb8)
  have acc_w8 := hidP (acc_w7.out.trans (hb8.mono acc_w7.out.size))
  have ac3_w8 := hidP (ac3_w7.out.trans (hb8.mono ac3_w7.out.size))
  clear pbF_w7 pb0_w7 pb1_w7 pbL_w7 at0_w7 at1_w7 at2_w7 at3_w7 atL_w7 rsF_w7 rs0_w7 rs1_w7 rsL_w7 otF_w7 ot0_w7 ot1_w7 otL_w7 oP_w7 oB_w7 acc_w7 ac3_w7 hb8
  go_wp2_with fail
  refine (HBI.out _ acc_w8.out).mono ?_
  rintro e w9 ⟨a9, c9, rfl, _, hb9⟩
  have pb0_w9 := (hb9.cell pbL_w8).trans pb0_w8
  have pb1_w9 := (hb9.cell pbL_w8).trans pb1_w8
  have pbF_w9 : ∀ o, w9.frozen? ⟨w.heap.size, o, none⟩ = false := fun o => (hb9.frozen pbL_w8).trans (pbF_w8 o)
  have pbL_w9 : w.heap.size < w9.heap.size := Nat.lt_of_lt_of_le pbL_w8 hb9.size
  have at0_w9 := (hb9.cell atL_w8).trans at0_w8
  have at1_w9 := (hb9.cell atL_w8).trans at1_w8
  have at2_w9 := (hb9.cell atL_w8).trans at2_w8
  have at3_w9 := (hb9.cell atL_w8).trans at3_w8
  have atL_w9 : w.heap.size + 1 < w9.heap.size := Nat.lt_of_lt_of_le atL_w8 hb9.size
  have rs0_w9 := (hb9.cell rsL_w8).trans rs0_w8
  have rs1_w9 := (hb9.cell rsL_w8).trans rs1_w8
  have rsF_w9 : ∀ o, w9.frozen? ⟨w.heap.size + 1 + 1, o, none⟩ = false := fun o => (hb9.frozen rsL_w8).trans (rsF_w8 o)
  have rsL_w9 : w.heap.size + 1 + 1 < w9.heap.size := Nat.lt_of_lt_of_le rsL_w8 hb9.size
  have ot0_w9 := (hb9.cell otL_w8).trans ot0_w8
  have ot1_w9 := (hb9.cell otL_w8).trans ot1_w8
  have otF_w9 : ∀ o, w9.frozen? ⟨w4.heap.size, o, none⟩ = false := fun o => (hb9.frozen otL_w8).trans (otF_w8 o)
  have otL_w9 : w4.heap.size < w9.heap.size := Nat.lt_of_lt_of_le otL_w8 hb9.size
  have oP_w9 := hidP (OwnG.later oP_w8.out hb9)
  have oB_w9 := hidP (OwnG.later oB_w8.out hb9)
  have acc_w9 := hidP (acc_w8.out.trans (hb9.mono acc_w8.out.size))
  have ac3_w9 := hidP (ac3_w8.out.trans (hb9.mono ac3_w8.out.size))
  clear pbF_w8 pb0_w8 pb1_w8 pbL_w8 at0_w8 at1_w8 at2_w8 at3_w8 atL_w8 rsF_w8 rs0_w8 rs1_w8 rsL_w8 otF_w8 ot0_w8 ot1_w8 otL_w8 oP_w8 oB_w8 acc_w8 ac3_w8 hb9
  go_wp2_with fail
  have HSx : Hid (∀ x, Below W3.heap.size W3 x → (x.cell? ⟨w.heap.size, 0, none⟩ = some (.slice (some ⟨g, 0, none⟩) (i + 1) (i + 1)) ∧ Below W3.heap.size W3 x)) := hidP fun x h =>
    ⟨(h.cell UL9).trans U0c, h⟩
  refine wp_region_held_drew (S := (fun x => x.cell? ⟨w.heap.size, 0, none⟩ = some (.slice (some ⟨g, 0, none⟩) (i + 1) (i + 1)) ∧ Below W3.heap.size W3 x)) (by kernel_rfl) ?_ (fun hHeld => ?_)
  · try dsimp only
    exact HSx.out _ (ac3_w9.out.drew)
  refine wpAnyH_take (i := 1) (oi := ⟨some 34, _, _, _, _, _⟩) (v := ?_) rfl (by kernel_rfl) (by kernel_rfl) (by kernel_rfl) (fun _ _ _ h => h) (Or.inl ⟨by rfl, ?_⟩) (by assumption) ?_
  rotate_left
  · intro w hSw
    try dsimp only at hSw
    go_simp
    try with_reducible rfl
  simp only [Act.put, List.setIfInBounds_toArray, List.set_cons_zero, List.set_cons_succ]
  refine wpAnyH_take (i := 2) (oi := ⟨some 35, _, _, _, _, _⟩) (v := ?_) rfl (by kernel_rfl) (by kernel_rfl) (by kernel_rfl) (fun _ _ _ h => h) (Or.inl ⟨by rfl, ?_⟩) (by assumption) ?_
  rotate_left
  · intro w hSw
    try dsimp only at hSw
    go_simp
    try with_reducible rfl
  simp only [Act.put, List.setIfInBounds_toArray, List.set_cons_zero, List.set_cons_succ]
  refine wpAnyH_take (i := 3) (oi := ⟨some 36, _, _, _, _, _⟩) (v := ?_) rfl (by kernel_rfl) (by kernel_rfl) (by kernel_rfl) (fun _ _ _ h => h) (Or.inl ⟨by rfl, ?_⟩) (by assumption) ?_
  rotate_left
  · intro w hSw
    try dsimp only at hSw
    go_simp
    try with_reducible rfl
  simp only [Act.put, List.setIfInBounds_toArray, List.set_cons_zero, List.set_cons_succ]
  refine wpAnyH_take (i := 4) (oi := ⟨some 37, _, _, _, _, _⟩) (v := ?_) rfl (by kernel_rfl) (by kernel_rfl) (by kernel_rfl) (fun _ _ _ h => h) (Or.inl ⟨by rfl, ?_⟩) (by assumption) ?_
  rotate_left
  · intro w hSw
    try dsimp only at hSw
    go_simp
    try with_reducible rfl
  simp only [Act.put, List.setIfInBounds_toArray, List.set_cons_zero, List.set_cons_succ]
  refine wpAnyH_take (i := 6) (oi := ⟨some 39, _, _, _, _, _⟩) (v := ?_) rfl (by kernel_rfl) (by kernel_rfl) (by kernel_rfl) (fun _ _ _ h => h) (Or.inl ⟨by rfl, ?_⟩) (by assumption) ?_
  rotate_left
  · intro w hSw
    try dsimp only at hSw
    go_simp
    try with_reducible rfl
  simp only [Act.put, List.setIfInBounds_toArray, List.set_cons_zero, List.set_cons_succ]
  refine wpAnyH_take (i := 7) (oi := ⟨some 40, _, _, _, _, _⟩) (v := ?_) rfl (by kernel_rfl) (by kernel_rfl) (by kernel_rfl) (fun _ _ _ h => h) (Or.inl ⟨by rfl, ?_⟩) (by assumption) ?_
  rotate_left
  · intro w hSw
    try dsimp only at hSw
    go_simp
    try with_reducible rfl
  simp only [Act.put, List.setIfInBounds_toArray, List.set_cons_zero, List.set_cons_succ]
  refine wpAnyH_take (i := 8) (oi := ⟨some 41, _, _, _, _, _⟩) (v := ?_) rfl (by kernel_rfl) (by kernel_rfl) (by kernel_rfl) (fun _ _ _ h => h) (Or.inl ⟨by rfl, ?_⟩) (by assumption) ?_
  rotate_left
  · intro w hSw
    try dsimp only at hSw
    go_simp
    try with_reducible rfl
  simp only [Act.put, List.setIfInBounds_toArray, List.set_cons_zero, List.set_cons_succ]
  refine wpAnyH_take (i := 9) (oi := ⟨some 42, _, _, _, _, _⟩) (v := ?_) rfl (by kernel_rfl) (by kernel_rfl) (by kernel_rfl) (fun _ _ _ h => h) (Or.inl ⟨by rfl, ?_⟩) (by assumption) ?_
  rotate_left
  · intro w hSw
    try dsimp only at hSw
    go_simp
    try with_reducible rfl
  simp only [Act.put, List.setIfInBounds_toArray, List.set_cons_zero, List.set_cons_succ]
  refine wpAnyH_take (i := 10) (oi := ⟨some 43, _, _, _, _, _⟩) (v := ?_) rfl (by kernel_rfl) (by kernel_rfl) (by kernel_rfl) (fun _ _ _ h => h) (Or.inl ⟨by rfl, ?_⟩) (by assumption) ?_
  rotate_left
  · intro w hSw
    try dsimp only at hSw
    go_simp
    try with_reducible rfl
  simp only [Act.put, List.setIfInBounds_toArray, List.set_cons_zero, List.set_cons_succ]
  refine wpAnyH_ready (rs := [0]) (by kernel_rfl) (by simp) ?_
  refine AllReadyH.cons rfl (fun K hK => ?_) AllReadyH.nil
  go_simp
  have z1 := OwnG.drewG (own_zeroG KPl w9 w9.heap.size 48 (Nat.le_refl _))
  have zb1 := (alloc_below w9 (.cells #[] 48)).drew
  have zs1 : w9.heap.size + 1 ≤ (w9.alloc (.cells #[] 48)).drew.heap.size := by show w9.heap.size + 1 ≤ (w9.alloc (.cells #[] 48)).heap.size; simp
  have bel1 := ac3_w9.out.trans (zb1.mono ac3_w9.out.size)
  generalize (w9.alloc (.cells #[] 48)).drew = v1 at *
  refine hK.out _ _ ?_ (fun hHeld => ?_)
  · try dsimp only
    exact HSx.out _ bel1
  clear hK K
  refine wpAnyH_ready (rs := [5]) (by kernel_rfl) (by simp) ?_
  refine AllReadyH.cons rfl (fun K hK => ?_) AllReadyH.nil
  have rw1 : Below w.heap.size w v1 := acc_w9.out.trans (zb1.mono acc_w9.out.size)
  refine step_appG Try.tyPl _ rfl (.tmp 33) (.tmp 37) 29 rfl w9.heap.size (some ⟨w9.heap.size, 0, none⟩) 0 0 i [] (ps.take i) (.slice (some ⟨g, 0, none⟩) i (i + 1)) rfl rfl HL.out.1.symm z1 rfl (src_rowG Try.tyPl.1 i (i + 1) (by show 0 < 5; omega) HL.out.1.symm (RowG.takeG (HRP.out.later rw1) i) (fun e => by cases e)) (by omega) (by omega) ?_
  intro a2 c2 v2 ho2 hg2 ht2
  rw [Nat.zero_add, List.nil_append] at ho2
  have zs2 := hg2.size
  have bel2 := Below.grown bel1 hg2 bel1.size (fun j hj => by rw [ob_some, Option.some.injEq] at hj; have := ac3_w9.out.size; omega)
  have zb2 := Below.grown zb1 hg2 zb1.size (fun j hj => by rw [ob_some, Option.some.injEq] at hj; omega)
  rw [Nat.zero_add]
  refine hK.out _ _ ?_ (fun hHeld => ?_)
  · try dsimp only
    exact HSx.out _ bel2
  clear hK K
  refine wpAnyH_ready (rs := [11]) (by kernel_rfl) (by simp) ?_
  refine AllReadyH.cons rfl (fun K hK => ?_) AllReadyH.nil
  have rw2 : Below w.heap.size w v2 := acc_w9.out.trans (zb2.mono acc_w9.out.size)
  refine step_appG Try.tyPl _ rfl (.tmp 38) (.tmp 43) 29 rfl w9.heap.size a2 i c2 ((i + 1) - (i + 1)) (ps.take i) (ps.drop (i + 1)) (.slice (some ⟨g, 0, none⟩) ((i + 1) - (i + 1)) 0) rfl HL.out.1.symm HL.out.2.symm ho2 (by rw [Nat.sub_self]; rfl) (src_rowG Try.tyPl.1 _ _ (by show 0 < 5; omega) HL.out.2.symm (fun j hj => by rw [HL.out.2] at hj; omega) (fun e => by cases e)) (by omega) (by omega) ?_
  intro a3 c3 v3 ho3 hg3 ht3
  have lo2 := fun j hj => (OwnG.lt ho2 j hj).1
  have bel3 := Below.grown bel2 hg3 bel2.size (fun j hj => by have := lo2 j hj; have := ac3_w9.out.size; omega)
  have zb3 := Below.grown zb2 hg3 zb2.size (fun j hj => by have := lo2 j hj; omega)
  have heM : i + ((i + 1) - (i + 1)) = i := by omega
  rw [heM, erase_eq] at ho3
  rw [heM]
  refine hK.out _ _ ?_ (fun hHeld => ?_)
  · try dsimp only
    exact HSx.out _ bel3
  clear hK K
  refine wpAnyH_take (i := 12) (oi := ⟨some 45, _, _, _, _, _⟩) (v := ?_) rfl (by kernel_rfl) (by kernel_rfl) (by kernel_rfl) (fun _ _ _ h => h) (Or.inl ⟨by rfl, ?_⟩) (by assumption) ?_
  rotate_left
  · intro w hSw
    try dsimp only at hSw
    go_simp
    try with_reducible rfl
  simp only [Act.put, List.setIfInBounds_toArray]
  have t0 := (zb3.cell otL_w9).trans ot0_w9
  have t1 := (zb3.cell otL_w9).trans ot1_w9
  have tF : ∀ o, v3.frozen? ⟨w4.heap.size, o, none⟩ = false := fun o => (zb3.frozen otL_w9).trans (otF_w9 o)
  have s0 := (zb3.cell rsL_w9).trans rs0_w9
  have s1 := (zb3.cell rsL_w9).trans rs1_w9
  have sF : ∀ o, v3.frozen? ⟨w.heap.size + 1 + 1, o, none⟩ = false := fun o => (zb3.frozen rsL_w9).trans (rsF_w9 o)
  have w43 : W3.heap.size ≤ w4.heap.size := w43c
  refine wpAnyH_ready (rs := [13]) (by kernel_rfl) (by simp) ?_
  refine AllReadyH.cons rfl (fun K hK => ?_) AllReadyH.nil
  go_simp
  refine hK.out _ _ ?_ (fun hHeld => ?_)
  · try dsimp only
    exact HSx.out _ (bel3.setCell w43 _)
  clear hK K
  have HE := hidP (hHeld.2)
  refine wpAnyH_done (by kernel_rfl) ?_ _
  clear hHeld
  have r0 : (v3.setCell ⟨w4.heap.size, 0, none⟩ (.slice a3 i c3)).cell? ⟨w.heap.size + 1 + 1, 0, none⟩ = some (.slice none 0 0) := cell_set1 s0 (by omega)
  have r1 : (v3.setCell ⟨w4.heap.size, 0, none⟩ (.slice a3 i c3)).cell? ⟨w.heap.size + 1 + 1, 1, none⟩ = some (.slice none 0 0) := cell_set1 s1 (by omega)
  have rF : ∀ o, (v3.setCell ⟨w4.heap.size, 0, none⟩ (.slice a3 i c3)).frozen? ⟨w.heap.size + 1 + 1, o, none⟩ = false := fun o => frz_set1 (sF o) (by omega)
  have n0 : (v3.setCell ⟨w4.heap.size, 0, none⟩ (.slice a3 i c3)).cell? ⟨w4.heap.size, 0, none⟩ = some (.slice a3 i c3) := by simp [go_sem, t0]
  have n1 : (v3.setCell ⟨w4.heap.size, 0, none⟩ (.slice a3 i c3)).cell? ⟨w4.heap.size, 1, none⟩ = some (.slice b nb d) := by simp [go_sem, t1]
  have lB := fun j hj => (OwnG.lt oB_w9.out j hj).2
  have oP9 := hidP (OwnG.set1 (u := .slice a3 i c3) ho3 otL_w9)
  have oB9 := hidP (OwnG.grown (OwnG.later oB_w9.out zb3) (grown_cellG v3 w4.heap.size 0 (.slice a3 i c3)) (fun j hj e => by have := HLB4.out j hj; simp at e; omega))
  have ac9 := hidP (Below.setCell (p := ⟨w4.heap.size, 0, none⟩) (acc_w9.out.trans (zb3.mono acc_w9.out.size)) (show w.heap.size ≤ w4.heap.size by omega) (.slice a3 i c3))
  have lP := fun j hj => (OwnG.lt ho3 j hj).1
  have HD := hidP (And.intro lB lP)
  clear lB lP ho3 hg3 ht3 ho2 hg2 ht2 z1 t0 t1 tF s0 s1 sF
  generalize v3.setCell ⟨w4.heap.size, 0, none⟩ (.slice a3 i c3) = V at *
  go_wp2_with fail
  refine bodyPost_ret (v := .tuple #[.agg #[.slice a3 i c3, .slice b nb d], .int .i64 0]) (by simp [results, Try.results21, go_sem, r0, r1]) rfl ⟨_, _, _, _, rfl, (OwnG.set2 oP9.out (by omega)).mono (by omega), (OwnG.set2 oB9.out kL9).mono (Nat.le_of_lt UL9), (fun k h1 h2 => by have e1 := HD.out.2 k h1; have e2 := HD.out.1 k h2; omega), below_set2 ac9.out (by omega)⟩

end Go.Proofs.Ythbpehpnikknlaa

namespace Go.Proofs.Ythbpehpnikknlaa
open Go.RowKit

set_option maxRecDepth 10000 in
set_option maxHeartbeats 4000000 in
theorem sDrop_e1 (pt : Pf) (g h : Nat) (np nb : Nat) (ps : List Pl) (bs : List Bk) (w : World) (hnp : np = ps.length) (hnb : nb = bs.length) (hP : RowG KPl w (some ⟨g, 0, none⟩) ps) (hK : RowG KBk w (some ⟨h, 0, none⟩) bs) (hl : np ≤ 1048576) (hl' : nb ≤ 1048576) (hst : ∀ q ∈ bs, q.t.size ≤ 9223372036854775807) (hr : planB ps bs = true) (hk : pt.pk = true) (i : Nat) (hi : i < np) (hcj : ¬ np = i + 1) (hp : plc pt ps = (i : Int)) (hu : (fil bs pt).length = 0) :
    Calls Try.prog 21 #[.agg #[.slice (some ⟨g, 0, none⟩) np np, .slice (some ⟨h, 0, none⟩) nb nb], .agg #[.bool pt.s, .int .i64 pt.H.toInt, .int .i64 pt.L.toInt, .int .i64 pt.b]] w fun e w' => ∃ a c b d, e = .returned (.tuple #[.agg #[.slice a (np - 1) c, .slice b nb d], .int .i64 (0)]) ∧ OwnG KPl 48 w' w.heap.size (.slice a (np - 1) c) (ps.eraseIdx i) ∧ OwnG KBk 56 w' w.heap.size (.slice b nb d) (bs) ∧ (∀ k, (Value.slice a (np - 1) c).ownBlock = some k → (Value.slice b nb d).ownBlock ≠ some k) ∧ Below w.heap.size w w' := by
  have HOw := hidP (fun W h' => l5Copy_any (some ⟨g, 0, none⟩) np np (some ⟨h, 0, none⟩) nb nb ps bs W hnp hnb (hP.later h') (hK.later h') (fun e => by cases e) (fun e => by cases e) hl hl')
  have HPO := hidP (fun W h' => sPlanOk_any (some ⟨g, 0, none⟩) np np (some ⟨h, 0, none⟩) nb nb ps bs W hnp hnb (hP.later h') (hK.later h') (by omega) (by omega) hst)
  have HPk := hidP (sPrefixOk_any pt.s pt.H pt.L pt.b)
  change Hid (∀ w, Calls Try.prog 41 _ w fun e w' => e = .returned (.bool pt.pk) ∧ Below w.heap.size w w') at HPk
  have hd : Dsj ps := (pools_dsj ps none (fun _ h => by cases h) (by have hr' := hr; unfold planB at hr'; rw [Bool.and_eq_true, Bool.and_eq_true (poolsF none ps)] at hr'; exact hr'.2.1)).1
  have HPl := hidP (fun W h' => l5Exact_any pt hk (some ⟨g, 0, none⟩) np np (some ⟨h, 0, none⟩) nb nb ps hd W hnp (hP.later h') (by omega))
  have HBI := hidP (fun W h' => l5Blocks_any pt (some ⟨g, 0, none⟩) np np (some ⟨h, 0, none⟩) nb nb bs W hnb (hK.later h') hl')
  have HN := hidP (And.intro hnp hnb)
  have HRP := hidP hP
  clear hP hK hnp hnb hst
  rw [hr] at HPO
  rw [hk] at HPk
  rw [hp] at HPl
  rw [hu] at HBI
  have gi : decide ((i : Int) < 0) = false := decide_eq_false (by omega)
  have wi : IntKind.i64.wrap ((i : Int) + 1) = (i : Int) + 1 := by rw [IntKind.wrap_i64]; omega
  have b1 : (i : Int) ≤ (np : Int) := by omega
  have b3 : (0 : Int) ≤ (i : Int) + 1 := by omega
  have b4 : (i : Int) + 1 ≤ (np : Int) := by omega
  have hl1 : (ps.take i).length = i := by rw [List.length_take]; have := HN.out; omega
  have hl2 : (ps.drop (i + 1)).length = np - (i + 1) := by rw [List.length_drop, HN.out.1]
  have HL := hidP (And.intro hl1 hl2)
  clear hl1 hl2
  go_enter Try.func21, Try.ntmps21
  go_wp2_with fail
  have uF := frz2 w 32 (.slice (some ⟨g, 0, none⟩) np np) (.slice (some ⟨h, 0, none⟩) nb nb)
  obtain ⟨u0, u1⟩ := box2 (u := .slice (some ⟨g, 0, none⟩) np np) (v := .slice (some ⟨h, 0, none⟩) nb nb) w 32
  have uB := alloc_below w (.cells #[.slice (some ⟨g, 0, none⟩) np np, .slice (some ⟨h, 0, none⟩) nb nb] 32)
  have uL := alloc_lt w (.cells #[.slice (some ⟨g, 0, none⟩) np np, .slice (some ⟨h, 0, none⟩) nb nb] 32)
  have uS : (w.alloc (.cells #[.slice (some ⟨g, 0, none⟩) np np, .slice (some ⟨h, 0, none⟩) nb nb] 32)).heap.size = w.heap.size + 1 := by simp
  generalize w.alloc (.cells #[.slice (some ⟨g, 0, none⟩) np np, .slice (some ⟨h, 0, none⟩) nb nb] 32) = W1 at *
  obtain ⟨y0, y1, y2, y3⟩ := box4 (p := pt) W1 46
  have yB := alloc_below W1 (.cells #[.bool pt.s, .int .i64 pt.H.toInt, .int .i64 pt.L.toInt, .int .i64 pt.b] 46)
  have yL := alloc_lt W1 (.cells #[.bool pt.s, .int .i64 pt.H.toInt, .int .i64 pt.L.toInt, .int .i64 pt.b] 46)
  have yS : (W1.alloc (.cells #[.bool pt.s, .int .i64 pt.H.toInt, .int .i64 pt.L.toInt, .int .i64 pt.b] 46)).heap.size = W1.heap.size + 1 := by simp
  generalize W1.alloc (.cells #[.bool pt.s, .int .i64 pt.H.toInt, .int .i64 pt.L.toInt, .int .i64 pt.b] 46) = W2 at *
  rw [uS] at y0 y1 y2 y3 yL yS
  have kF := frz2 W2 32 (.slice none 0 0) (.slice none 0 0)
  obtain ⟨k0, k1⟩ := box2 (u := .slice none 0 0) (v := .slice none 0 0) W2 32
  have kB := alloc_below W2 (.cells #[.slice none 0 0, .slice none 0 0] 32)
  have kL := alloc_lt W2 (.cells #[.slice none 0 0, .slice none 0 0] 32)
  have kS : (W2.alloc (.cells #[.slice none 0 0, .slice none 0 0] 32)).heap.size = W2.heap.size + 1 := by simp
  generalize W2.alloc (.cells #[.slice none 0 0, .slice none 0 0] 32) = W3 at *
  rw [yS] at k0 k1 kL kS
  rw [yS] at kF
  have l0 : w.heap.size < W2.heap.size := by omega
  have l1 : w.heap.size + 1 < W2.heap.size := by omega
  have U0 := (kB.cell l0).trans ((yB.cell uL).trans u0)
  have U1 := (kB.cell l0).trans ((yB.cell uL).trans u1)
  have UF : ∀ o, W3.frozen? ⟨w.heap.size, o, none⟩ = false := fun o => (kB.frozen l0).trans ((yB.frozen uL).trans (uF o))
  have Y0 := (kB.cell l1).trans y0
  have Y1 := (kB.cell l1).trans y1
  have Y2 := (kB.cell l1).trans y2
  have Y3 := (kB.cell l1).trans y3
  have acc0 := hidP ((uB.trans (yB.mono uB.size)).trans (kB.mono (Nat.le_trans uB.size yB.size)))
  have UL : w.heap.size < W3.heap.size := by omega
  have YL : w.heap.size + 1 < W3.heap.size := by omega
  have kL3 : w.heap.size + 1 + 1 < W3.heap.size := by omega
  have UL9 := UL
  have kL9 := kL3
  clear uB yB kB uS yS kS u0 u1 y0 y1 y2 y3 uL yL kL uF l0 l1
  have U0c := U0
  have ac3_W3 := hidP (Below.refl W3.heap.size W3)
  refine (HOw.out _ acc0.out).mono ?_
  rintro e w4 ⟨a, c, b, d, rfl, op, ob, hne, hb4⟩
  have pb0_w4 := (hb4.cell UL).trans U0
  have pb1_w4 := (hb4.cell UL).trans U1
  have pbF_w4 : ∀ o, w4.frozen? ⟨w.heap.size, o, none⟩ = false := fun o => (hb4.frozen UL).trans (UF o)
  have pbL_w4 : w.heap.size < w4.heap.size := Nat.lt_of_lt_of_le UL hb4.size
  have at0_w4 := (hb4.cell YL).trans Y0
  have at1_w4 := (hb4.cell YL).trans Y1
  have at2_w4 := (hb4.cell YL).trans Y2
  have at3_w4 := (hb4.cell YL).trans Y3
  have atL_w4 : w.heap.size + 1 < w4.heap.size := Nat.lt_of_lt_of_le YL hb4.size
  have rs0_w4 := (hb4.cell kL3).trans k0
  have rs1_w4 := (hb4.cell kL3).trans k1
  have rsF_w4 : ∀ o, w4.frozen? ⟨w.heap.size + 1 + 1, o, none⟩ = false := fun o => (hb4.frozen kL3).trans (kF o)
  have rsL_w4 : w.heap.size + 1 + 1 < w4.heap.size := Nat.lt_of_lt_of_le kL3 hb4.size
  have acc_w4 := hidP (acc0.out.trans (hb4.mono acc0.out.size))
  have ac3_w4 := hidP (ac3_W3.out.trans (hb4.mono ac3_W3.out.size))
  have w43c := hb4.size
  have HLB4 := hidP (fun j hj => (OwnG.lt ob j hj).2)
  have oP_w4 := hidP op
  have oB_w4 := hidP ob
  have HNE := hidP hne
  clear UF U0 U1 UL Y0 Y1 Y2 Y3 YL kF k0 k1 kL3 acc0 ac3_W3 hb4 op ob hne
  go_wp2_with fail
  have oF := frz2 w4 32 (.slice a np c) (.slice b nb d)
  obtain ⟨o0, o1⟩ := box2 (u := .slice a np c) (v := .slice b nb d) w4 32
  have oB := alloc_below w4 (.cells #[.slice a np c, .slice b nb d] 32)
  have oL := alloc_lt w4 (.cells #[.slice a np c, .slice b nb d] 32)
  have oS : (w4.alloc (.cells #[.slice a np c, .slice b nb d] 32)).heap.size = w4.heap.size + 1 := by simp
  generalize w4.alloc (.cells #[.slice a np c, .slice b nb d] 32) = W5 at *
  have hb5 := oB
  have pb0_W5 := (hb5.cell pbL_w4).trans pb0_w4
  have pb1_W5 := (hb5.cell pbL_w4).trans pb1_w4
  have pbF_W5 : ∀ o, W5.frozen? ⟨w.heap.size, o, none⟩ = false := fun o => (hb5.frozen pbL_w4).trans (pbF_w4 o)
  have pbL_W5 : w.heap.size < W5.heap.size := Nat.lt_of_lt_of_le pbL_w4 hb5.size
  have at0_W5 := (hb5.cell atL_w4).trans at0_w4
  have at1_W5 := (hb5.cell atL_w4).trans at1_w4
  have at2_W5 := (hb5.cell atL_w4).trans at2_w4
  have at3_W5 := (hb5.cell atL_w4).trans at3_w4
  have atL_W5 : w.heap.size + 1 < W5.heap.size := Nat.lt_of_lt_of_le atL_w4 hb5.size
  have rs0_W5 := (hb5.cell rsL_w4).trans rs0_w4
  have rs1_W5 := (hb5.cell rsL_w4).trans rs1_w4
  have rsF_W5 : ∀ o, W5.frozen? ⟨w.heap.size + 1 + 1, o, none⟩ = false := fun o => (hb5.frozen rsL_w4).trans (rsF_w4 o)
  have rsL_W5 : w.heap.size + 1 + 1 < W5.heap.size := Nat.lt_of_lt_of_le rsL_w4 hb5.size
  have oP_W5 := hidP (OwnG.later oP_w4.out hb5)
  have oB_W5 := hidP (OwnG.later oB_w4.out hb5)
  have acc_W5 := hidP (acc_w4.out.trans (hb5.mono acc_w4.out.size))
  have ac3_W5 := hidP (ac3_w4.out.trans (hb5.mono ac3_w4.out.size))
  clear pbF_w4 pb0_w4 pb1_w4 pbL_w4 at0_w4 at1_w4 at2_w4 at3_w4 atL_w4 rsF_w4 rs0_w4 rs1_w4 rsL_w4 oP_w4 oB_w4 acc_w4 ac3_w4 hb5 oB oS
  refine (HPO.out _ acc_W5.out).mono ?_
  rintro e w6 ⟨rfl, hb6⟩
  have pb0_w6 := (hb6.cell pbL_W5).trans pb0_W5
  have pb1_w6 := (hb6.cell pbL_W5).trans pb1_W5
  have pbF_w6 : ∀ o, w6.frozen? ⟨w.heap.size, o, none⟩ = false := fun o => (hb6.frozen pbL_W5).trans (pbF_W5 o)
  have pbL_w6 : w.heap.size < w6.heap.size := Nat.lt_of_lt_of_le pbL_W5 hb6.size
  have at0_w6 := (hb6.cell atL_W5).trans at0_W5
  have at1_w6 := (hb6.cell atL_W5).trans at1_W5
  have at2_w6 := (hb6.cell atL_W5).trans at2_W5
  have at3_w6 := (hb6.cell atL_W5).trans at3_W5
  have atL_w6 : w.heap.size + 1 < w6.heap.size := Nat.lt_of_lt_of_le atL_W5 hb6.size
  have rs0_w6 := (hb6.cell rsL_W5).trans rs0_W5
  have rs1_w6 := (hb6.cell rsL_W5).trans rs1_W5
  have rsF_w6 : ∀ o, w6.frozen? ⟨w.heap.size + 1 + 1, o, none⟩ = false := fun o => (hb6.frozen rsL_W5).trans (rsF_W5 o)
  have rsL_w6 : w.heap.size + 1 + 1 < w6.heap.size := Nat.lt_of_lt_of_le rsL_W5 hb6.size
  have ot0_w6 := (hb6.cell oL).trans o0
  have ot1_w6 := (hb6.cell oL).trans o1
  have otF_w6 : ∀ o, w6.frozen? ⟨w4.heap.size, o, none⟩ = false := fun o => (hb6.frozen oL).trans (oF o)
  have otL_w6 : w4.heap.size < w6.heap.size := Nat.lt_of_lt_of_le oL hb6.size
  have oP_w6 := hidP (OwnG.later oP_W5.out hb6)
  have oB_w6 := hidP (OwnG.later oB_W5.out hb6)
  have acc_w6 := hidP (acc_W5.out.trans (hb6.mono acc_W5.out.size))
  have ac3_w6 := hidP (ac3_W5.out.trans (hb6.mono ac3_W5.out.size))
  clear pbF_W5 pb0_W5 pb1_W5 pbL_W5 at0_W5 at1_W5 at2_W5 at3_W5 atL_W5 rsF_W5 rs0_W5 rs1_W5 rsL_W5 oF o0 o1 oL oP_W5 oB_W5 acc_W5 ac3_W5 hb6
  go_wp2_with fail
  refine (HPk.out _).mono ?_
  rintro e w7 ⟨rfl, hb7⟩
  have pb0_w7 := (hb7.cell pbL_w6).trans pb0_w6
  have pb1_w7 := (hb7.cell pbL_w6).trans pb1_w6
  have pbF_w7 : ∀ o, w7.frozen? ⟨w.heap.size, o, none⟩ = false := fun o => (hb7.frozen pbL_w6).trans (pbF_w6 o)
  have pbL_w7 : w.heap.size < w7.heap.size := Nat.lt_of_lt_of_le pbL_w6 hb7.size
  have at0_w7 := (hb7.cell atL_w6).trans at0_w6
  have at1_w7 := (hb7.cell atL_w6).trans at1_w6
  have at2_w7 := (hb7.cell atL_w6).trans at2_w6
  have at3_w7 := (hb7.cell atL_w6).trans at3_w6
  have atL_w7 : w.heap.size + 1 < w7.heap.size := Nat.lt_of_lt_of_le atL_w6 hb7.size
  have rs0_w7 := (hb7.cell rsL_w6).trans rs0_w6
  have rs1_w7 := (hb7.cell rsL_w6).trans rs1_w6
  have rsF_w7 : ∀ o, w7.frozen? ⟨w.heap.size + 1 + 1, o, none⟩ = false := fun o => (hb7.frozen rsL_w6).trans (rsF_w6 o)
  have rsL_w7 : w.heap.size + 1 + 1 < w7.heap.size := Nat.lt_of_lt_of_le rsL_w6 hb7.size
  have ot0_w7 := (hb7.cell otL_w6).trans ot0_w6
  have ot1_w7 := (hb7.cell otL_w6).trans ot1_w6
  have otF_w7 : ∀ o, w7.frozen? ⟨w4.heap.size, o, none⟩ = false := fun o => (hb7.frozen otL_w6).trans (otF_w6 o)
  have otL_w7 : w4.heap.size < w7.heap.size := Nat.lt_of_lt_of_le otL_w6 hb7.size
  have oP_w7 := hidP (OwnG.later oP_w6.out hb7)
  have oB_w7 := hidP (OwnG.later oB_w6.out hb7)
  have acc_w7 := hidP (acc_w6.out.trans (hb7.mono acc_w6.out.size))
  have ac3_w7 := hidP (ac3_w6.out.trans (hb7.mono ac3_w6.out.size))
  clear pbF_w6 pb0_w6 pb1_w6 pbL_w6 at0_w6 at1_w6 at2_w6 at3_w6 atL_w6 rsF_w6 rs0_w6 rs1_w6 rsL_w6 otF_w6 ot0_w6 ot1_w6 otL_w6 oP_w6 oB_w6 acc_w6 ac3_w6 hb7
  go_wp2_with fail
  refine (HPl.out _ acc_w7.out).mono ?_
  rintro e w8 ⟨rfl, hb8⟩
  have pb0_w8 := (hb8.cell pbL_w7).trans pb0_w7
  have pb1_w8 := (hb8.cell pbL_w7).trans pb1_w7
  have pbF_w8 : ∀ o, w8.frozen? ⟨w.heap.size, o, none⟩ = false := fun o => (hb8.frozen pbL_w7).trans (pbF_w7 o)
  have pbL_w8 : w.heap.size < w8.heap.size := Nat.lt_of_lt_of_le pbL_w7 hb8.size
  have at0_w8 := (hb8.cell atL_w7).trans at0_w7
  have at1_w8 := (hb8.cell atL_w7).trans at1_w7
  have at2_w8 := (hb8.cell atL_w7).trans at2_w7
  have at3_w8 := (hb8.cell atL_w7).trans at3_w7
  have atL_w8 : w.heap.size + 1 < w8.heap.size := Nat.lt_of_lt_of_le atL_w7 hb8.size
  have rs0_w8 := (hb8.cell rsL_w7).trans rs0_w7
  have rs1_w8 := (hb8.cell rsL_w7).trans rs1_w7
  have rsF_w8 : ∀ o, w8.frozen? ⟨w.heap.size + 1 + 1, o, none⟩ = false := fun o => (hb8.frozen rsL_w7).trans (rsF_w7 o)
  have rsL_w8 : w.heap.size + 1 + 1 < w8.heap.size := Nat.lt_of_lt_of_le rsL_w7 hb8.size
  have ot0_w8 := (hb8.cell otL_w7).trans ot0_w7
  have ot1_w8 := (hb8.cell otL_w7).trans ot1_w7
  have otF_w8 : ∀ o, w8.frozen? ⟨w4.heap.size, o, none⟩ = false := fun o => (hb8.frozen otL_w7).trans (otF_w7 o)
  have otL_w8 : w4.heap.size < w8.heap.size := Nat.lt_of_lt_of_le otL_w7 hb8.size
  have oP_w8 := hidP (OwnG.later oP_w7.out hb8)
  have oB_w8 := hidP (OwnG.later oB_w7.out hb8)
  have acc_w8 := hidP (acc_w7.out.trans (hb8.mono acc_w7.out.size))
  have ac3_w8 := hidP (ac3_w7.out.trans (hb8.mono ac3_w7.out.size))
  clear pbF_w7 pb0_w7 pb1_w7 pbL_w7 at0_w7 at1_w7 at2_w7 at3_w7 atL_w7 rsF_w7 rs0_w7 rs1_w7 rsL_w7 otF_w7 ot0_w7 ot1_w7 otL_w7 oP_w7 oB_w7 acc_w7 ac3_w7 hb8
  go_wp2_with fail
  refine (HBI.out _ acc_w8.out).mono ?_
  rintro e w9 ⟨a9, c9, rfl, _, hb9⟩
  have pb0_w9 := (hb9.cell pbL_w8).trans pb0_w8
  have pb1_w9 := (hb9.cell pbL_w8).trans pb1_w8
  have pbF_w9 : ∀ o, w9.frozen? ⟨w.heap.size, o, none⟩ = false := fun o => (hb9.frozen pbL_w8).trans (pbF_w8 o)
  have pbL_w9 : w.heap.size < w9.heap.size := Nat.lt_of_lt_of_le pbL_w8 hb9.size
  have at0_w9 := (hb9.cell atL_w8).trans at0_w8
  have at1_w9 := (hb9.cell atL_w8).trans at1_w8
  have at2_w9 := (hb9.cell atL_w8).trans at2_w8
  have at3_w9 := (hb9.cell atL_w8).trans at3_w8
  have atL_w9 : w.heap.size + 1 < w9.heap.size := Nat.lt_of_lt_of_le atL_w8 hb9.size
  have rs0_w9 := (hb9.cell rsL_w8).trans rs0_w8
  have rs1_w9 := (hb9.cell rsL_w8).trans rs1_w8
  have rsF_w9 : ∀ o, w9.frozen? ⟨w.heap.size + 1 + 1, o, none⟩ = false := fun o => (hb9.frozen rsL_w8).trans (rsF_w8 o)
  have rsL_w9 : w.heap.size + 1 + 1 < w9.heap.size := Nat.lt_of_lt_of_le rsL_w8 hb9.size
  have ot0_w9 := (hb9.cell otL_w8).trans ot0_w8
  have ot1_w9 := (hb9.cell otL_w8).trans ot1_w8
  have otF_w9 : ∀ o, w9.frozen? ⟨w4.heap.size, o, none⟩ = false := fun o => (hb9.frozen otL_w8).trans (otF_w8 o)
  have otL_w9 : w4.heap.size < w9.heap.size := Nat.lt_of_lt_of_le otL_w8 hb9.size
  have oP_w9 := hidP (OwnG.later oP_w8.out hb9)
  have oB_w9 := hidP (OwnG.later oB_w8.out hb9)
  have acc_w9 := hidP (acc_w8.out.trans (hb9.mono acc_w8.out.size))
  have ac3_w9 := hidP (ac3_w8.out.trans (hb9.mono ac3_w8.out.size))
  clear pbF_w8 pb0_w8 pb1_w8 pbL_w8 at0_w8 at1_w8 at2_w8 at3_w8 atL_w8 rsF_w8 rs0_w8 rs1_w8 rsL_w8 otF_w8 ot0_w8 ot1_w8 otL_w8 oP_w8 oB_w8 acc_w8 ac3_w8 hb9
  go_wp2_with fail
  have HSx : Hid (∀ x, Below W3.heap.size W3 x → (x.cell? ⟨w.heap.size, 0, none⟩ = some (.slice (some ⟨g, 0, none⟩) np np) ∧ Below W3.heap.size W3 x)) := hidP fun x h =>
    ⟨(h.cell UL9).trans U0c, h⟩
  refine wp_region_held_drew (S := (fun x => x.cell? ⟨w.heap.size, 0, none⟩ = some (.slice (some ⟨g, 0, none⟩) np np) ∧ Below W3.heap.size W3 x)) (by kernel_rfl) ?_ (fun hHeld => ?_)
  · try dsimp only
    exact HSx.out _ (ac3_w9.out.drew)
  refine wpAnyH_take (i := 1) (oi := ⟨some 34, _, _, _, _, _⟩) (v := ?_) rfl (by kernel_rfl) (by kernel_rfl) (by kernel_rfl) (fun _ _ _ h => h) (Or.inl ⟨by rfl, ?_⟩) (by assumption) ?_
  rotate_left
  · intro w hSw
    try dsimp only at hSw
    go_simp
    try with_reducible rfl
  simp only [Act.put, List.setIfInBounds_toArray, List.set_cons_zero, List.set_cons_succ]
  refine wpAnyH_take (i := 2) (oi := ⟨some 35, _, _, _, _, _⟩) (v := ?_) rfl (by kernel_rfl) (by kernel_rfl) (by kernel_rfl) (fun _ _ _ h => h) (Or.inl ⟨by rfl, ?_⟩) (by assumption) ?_
  rotate_left
  · intro w hSw
    try dsimp only at hSw
    go_simp
    try with_reducible rfl
  simp only [Act.put, List.setIfInBounds_toArray, List.set_cons_zero, List.set_cons_succ]
  refine wpAnyH_take (i := 3) (oi := ⟨some 36, _, _, _, _, _⟩) (v := ?_) rfl (by kernel_rfl) (by kernel_rfl) (by kernel_rfl) (fun _ _ _ h => h) (Or.inl ⟨by rfl, ?_⟩) (by assumption) ?_
  rotate_left
  · intro w hSw
    try dsimp only at hSw
    go_simp
    try with_reducible rfl
  simp only [Act.put, List.setIfInBounds_toArray, List.set_cons_zero, List.set_cons_succ]
  refine wpAnyH_take (i := 4) (oi := ⟨some 37, _, _, _, _, _⟩) (v := ?_) rfl (by kernel_rfl) (by kernel_rfl) (by kernel_rfl) (fun _ _ _ h => h) (Or.inl ⟨by rfl, ?_⟩) (by assumption) ?_
  rotate_left
  · intro w hSw
    try dsimp only at hSw
    go_simp
    try with_reducible rfl
  simp only [Act.put, List.setIfInBounds_toArray, List.set_cons_zero, List.set_cons_succ]
  refine wpAnyH_take (i := 6) (oi := ⟨some 39, _, _, _, _, _⟩) (v := ?_) rfl (by kernel_rfl) (by kernel_rfl) (by kernel_rfl) (fun _ _ _ h => h) (Or.inl ⟨by rfl, ?_⟩) (by assumption) ?_
  rotate_left
  · intro w hSw
    try dsimp only at hSw
    go_simp
    try with_reducible rfl
  simp only [Act.put, List.setIfInBounds_toArray, List.set_cons_zero, List.set_cons_succ]
  refine wpAnyH_take (i := 7) (oi := ⟨some 40, _, _, _, _, _⟩) (v := ?_) rfl (by kernel_rfl) (by kernel_rfl) (by kernel_rfl) (fun _ _ _ h => h) (Or.inl ⟨by rfl, ?_⟩) (by assumption) ?_
  rotate_left
  · intro w hSw
    try dsimp only at hSw
    go_simp
    try with_reducible rfl
  simp only [Act.put, List.setIfInBounds_toArray, List.set_cons_zero, List.set_cons_succ]
  refine wpAnyH_take (i := 8) (oi := ⟨some 41, _, _, _, _, _⟩) (v := ?_) rfl (by kernel_rfl) (by kernel_rfl) (by kernel_rfl) (fun _ _ _ h => h) (Or.inl ⟨by rfl, ?_⟩) (by assumption) ?_
  rotate_left
  · intro w hSw
    try dsimp only at hSw
    go_simp
    try with_reducible rfl
  simp only [Act.put, List.setIfInBounds_toArray, List.set_cons_zero, List.set_cons_succ]
  refine wpAnyH_take (i := 9) (oi := ⟨some 42, _, _, _, _, _⟩) (v := ?_) rfl (by kernel_rfl) (by kernel_rfl) (by kernel_rfl) (fun _ _ _ h => h) (Or.inl ⟨by rfl, ?_⟩) (by assumption) ?_
  rotate_left
  · intro w hSw
    try dsimp only at hSw
    go_simp
    try with_reducible rfl
  simp only [Act.put, List.setIfInBounds_toArray, List.set_cons_zero, List.set_cons_succ]
  refine wpAnyH_take (i := 10) (oi := ⟨some 43, _, _, _, _, _⟩) (v := ?_) rfl (by kernel_rfl) (by kernel_rfl) (by kernel_rfl) (fun _ _ _ h => h) (Or.inl ⟨by rfl, ?_⟩) (by assumption) ?_
  rotate_left
  · intro w hSw
    try dsimp only at hSw
    go_simp
    try with_reducible rfl
  simp only [Act.put, List.setIfInBounds_toArray, List.set_cons_zero, List.set_cons_succ]
  refine wpAnyH_ready (rs := [0]) (by kernel_rfl) (by simp) ?_
  refine AllReadyH.cons rfl (fun K hK => ?_) AllReadyH.nil
  go_simp
  have z1 := OwnG.drewG (own_zeroG KPl w9 w9.heap.size 48 (Nat.le_refl _))
  have zb1 := (alloc_below w9 (.cells #[] 48)).drew
  have zs1 : w9.heap.size + 1 ≤ (w9.alloc (.cells #[] 48)).drew.heap.size := by show w9.heap.size + 1 ≤ (w9.alloc (.cells #[] 48)).heap.size; simp
  have bel1 := ac3_w9.out.trans (zb1.mono ac3_w9.out.size)
  generalize (w9.alloc (.cells #[] 48)).drew = v1 at *
  refine hK.out _ _ ?_ (fun hHeld => ?_)
  · try dsimp only
    exact HSx.out _ bel1
  clear hK K
  refine wpAnyH_ready (rs := [5]) (by kernel_rfl) (by simp) ?_
  refine AllReadyH.cons rfl (fun K hK => ?_) AllReadyH.nil
  have rw1 : Below w.heap.size w v1 := acc_w9.out.trans (zb1.mono acc_w9.out.size)
  refine step_appG Try.tyPl _ rfl (.tmp 33) (.tmp 37) 29 rfl w9.heap.size (some ⟨w9.heap.size, 0, none⟩) 0 0 i [] (ps.take i) (.slice (some ⟨g, 0, none⟩) i np) rfl rfl HL.out.1.symm z1 rfl (src_rowG Try.tyPl.1 i np (by show 0 < 5; omega) HL.out.1.symm (RowG.takeG (HRP.out.later rw1) i) (fun e => by cases e)) (by omega) (by omega) ?_
  intro a2 c2 v2 ho2 hg2 ht2
  rw [Nat.zero_add, List.nil_append] at ho2
  have zs2 := hg2.size
  have bel2 := Below.grown bel1 hg2 bel1.size (fun j hj => by rw [ob_some, Option.some.injEq] at hj; have := ac3_w9.out.size; omega)
  have zb2 := Below.grown zb1 hg2 zb1.size (fun j hj => by rw [ob_some, Option.some.injEq] at hj; omega)
  rw [Nat.zero_add]
  refine hK.out _ _ ?_ (fun hHeld => ?_)
  · try dsimp only
    exact HSx.out _ bel2
  clear hK K
  refine wpAnyH_ready (rs := [11]) (by kernel_rfl) (by simp) ?_
  refine AllReadyH.cons rfl (fun K hK => ?_) AllReadyH.nil
  have rw2 : Below w.heap.size w v2 := acc_w9.out.trans (zb2.mono acc_w9.out.size)
  refine step_appG Try.tyPl _ rfl (.tmp 38) (.tmp 43) 29 rfl w9.heap.size a2 i c2 (np - (i + 1)) (ps.take i) (ps.drop (i + 1)) (.slice (some ⟨g, (i + 1) * 5, none⟩) (np - (i + 1)) (np - (i + 1))) rfl HL.out.1.symm HL.out.2.symm ho2 rfl (src_rowG Try.tyPl.1 _ _ (by show 0 < 5; omega) HL.out.2.symm (RowG.fromG (HRP.out.later rw2) (i + 1)) (fun e => by cases e)) (by omega) (by omega) ?_
  intro a3 c3 v3 ho3 hg3 ht3
  have lo2 := fun j hj => (OwnG.lt ho2 j hj).1
  have bel3 := Below.grown bel2 hg3 bel2.size (fun j hj => by have := lo2 j hj; have := ac3_w9.out.size; omega)
  have zb3 := Below.grown zb2 hg3 zb2.size (fun j hj => by have := lo2 j hj; omega)
  have heM : i + (np - (i + 1)) = np - 1 := by omega
  rw [heM, erase_eq] at ho3
  rw [heM]
  refine hK.out _ _ ?_ (fun hHeld => ?_)
  · try dsimp only
    exact HSx.out _ bel3
  clear hK K
  refine wpAnyH_take (i := 12) (oi := ⟨some 45, _, _, _, _, _⟩) (v := ?_) rfl (by kernel_rfl) (by kernel_rfl) (by kernel_rfl) (fun _ _ _ h => h) (Or.inl ⟨by rfl, ?_⟩) (by assumption) ?_
  rotate_left
  · intro w hSw
    try dsimp only at hSw
    go_simp
    try with_reducible rfl
  simp only [Act.put, List.setIfInBounds_toArray]
  have t0 := (zb3.cell otL_w9).trans ot0_w9
  have t1 := (zb3.cell otL_w9).trans ot1_w9
  have tF : ∀ o, v3.frozen? ⟨w4.heap.size, o, none⟩ = false := fun o => (zb3.frozen otL_w9).trans (otF_w9 o)
  have s0 := (zb3.cell rsL_w9).trans rs0_w9
  have s1 := (zb3.cell rsL_w9).trans rs1_w9
  have sF : ∀ o, v3.frozen? ⟨w.heap.size + 1 + 1, o, none⟩ = false := fun o => (zb3.frozen rsL_w9).trans (rsF_w9 o)
  have w43 : W3.heap.size ≤ w4.heap.size := w43c
  refine wpAnyH_ready (rs := [13]) (by kernel_rfl) (by simp) ?_
  refine AllReadyH.cons rfl (fun K hK => ?_) AllReadyH.nil
  go_simp
  refine hK.out _ _ ?_ (fun hHeld => ?_)
  · try dsimp only
    exact HSx.out _ (bel3.setCell w43 _)
  clear hK K
  have HE := hidP (hHeld.2)
  refine wpAnyH_done (by kernel_rfl) ?_ _
  clear hHeld
  have r0 : (v3.setCell ⟨w4.heap.size, 0, none⟩ (.slice a3 (np - 1) c3)).cell? ⟨w.heap.size + 1 + 1, 0, none⟩ = some (.slice none 0 0) := cell_set1 s0 (by omega)
  have r1 : (v3.setCell ⟨w4.heap.size, 0, none⟩ (.slice a3 (np - 1) c3)).cell? ⟨w.heap.size + 1 + 1, 1, none⟩ = some (.slice none 0 0) := cell_set1 s1 (by omega)
  have rF : ∀ o, (v3.setCell ⟨w4.heap.size, 0, none⟩ (.slice a3 (np - 1) c3)).frozen? ⟨w.heap.size + 1 + 1, o, none⟩ = false := fun o => frz_set1 (sF o) (by omega)
  have n0 : (v3.setCell ⟨w4.heap.size, 0, none⟩ (.slice a3 (np - 1) c3)).cell? ⟨w4.heap.size, 0, none⟩ = some (.slice a3 (np - 1) c3) := by simp [go_sem, t0]
  have n1 : (v3.setCell ⟨w4.heap.size, 0, none⟩ (.slice a3 (np - 1) c3)).cell? ⟨w4.heap.size, 1, none⟩ = some (.slice b nb d) := by simp [go_sem, t1]
  have lB := fun j hj => (OwnG.lt oB_w9.out j hj).2
  have oP9 := hidP (OwnG.set1 (u := .slice a3 (np - 1) c3) ho3 otL_w9)
  have oB9 := hidP (OwnG.grown (OwnG.later oB_w9.out zb3) (grown_cellG v3 w4.heap.size 0 (.slice a3 (np - 1) c3)) (fun j hj e => by have := HLB4.out j hj; simp at e; omega))
  have ac9 := hidP (Below.setCell (p := ⟨w4.heap.size, 0, none⟩) (acc_w9.out.trans (zb3.mono acc_w9.out.size)) (show w.heap.size ≤ w4.heap.size by omega) (.slice a3 (np - 1) c3))
  have lP := fun j hj => (OwnG.lt ho3 j hj).1
  have HD := hidP (And.intro lB lP)
  clear lB lP ho3 hg3 ht3 ho2 hg2 ht2 z1 t0 t1 tF s0 s1 sF
  generalize v3.setCell ⟨w4.heap.size, 0, none⟩ (.slice a3 (np - 1) c3) = V at *
  go_wp2_with fail
  refine bodyPost_ret (v := .tuple #[.agg #[.slice a3 (np - 1) c3, .slice b nb d], .int .i64 0]) (by simp [results, Try.results21, go_sem, r0, r1]) rfl ⟨_, _, _, _, rfl, (OwnG.set2 oP9.out (by omega)).mono (by omega), (OwnG.set2 oB9.out kL9).mono (Nat.le_of_lt UL9), (fun k h1 h2 => by have e1 := HD.out.2 k h1; have e2 := HD.out.1 k h2; omega), below_set2 ac9.out (by omega)⟩

end Go.Proofs.Ythbpehpnikknlaa

namespace Go.Proofs.Ythbpehpnikknlaa
open Go.RowKit

theorem ixF_cases {α : Type} (f : α → Bool) : ∀ (ps : List α) (i : Nat), ixF f i ps = -1 ∨ ∃ j, j < ps.length ∧ ixF f i ps = ((i + j : Nat) : Int)
  | [], _ => Or.inl rfl
  | q :: t, i => by
      unfold ixF
      by_cases h : f q = true
      · rw [if_pos h]; exact Or.inr ⟨0, by simp, by simp⟩
      · rw [if_neg h]
        have e : ((i : Int) + 1) = ((i + 1 : Nat) : Int) := by omega
        rw [e]
        rcases ixF_cases f t (i + 1) with h1 | ⟨j, h1, h2⟩
        · exact Or.inl h1
        · exact Or.inr ⟨j + 1, by rw [List.length_cons]; omega, by rw [h2]; omega⟩
theorem drop_both (pt : Pf) (np nb : Nat) (ps : List Pl) (bs : List Bk) (hnp : np = ps.length) (hnb : nb = bs.length) (hl : np ≤ 1048576) (hl' : nb ≤ 1048576) (hst : ∀ q ∈ bs, q.t.size ≤ 9223372036854775807) :
    ∃ (PS : List Pl) (NP : Nat) (BS : List Bk) (NB : Nat) (C : Int), NP = PS.length ∧ NB = BS.length ∧ NP ≤ 1048577 ∧ NB ≤ 1048577 ∧ (∀ (g h : Nat) (W : World), RowG KPl W (some ⟨g, 0, none⟩) ps → RowG KBk W (some ⟨h, 0, none⟩) bs → Calls Try.prog 21 #[.agg #[.slice (some ⟨g, 0, none⟩) np np, .slice (some ⟨h, 0, none⟩) nb nb], .agg #[.bool pt.s, .int .i64 pt.H.toInt, .int .i64 pt.L.toInt, .int .i64 pt.b]] W fun e w' => ∃ a c b d, e = .returned (.tuple #[.agg #[.slice a NP c, .slice b NB d], .int .i64 C]) ∧ OwnG KPl 48 w' W.heap.size (.slice a NP c) PS ∧ OwnG KBk 56 w' W.heap.size (.slice b NB d) BS ∧ (∀ k, (Value.slice a NP c).ownBlock = some k → (Value.slice b NB d).ownBlock ≠ some k) ∧ Below W.heap.size W w') ∧ (∀ (g h : Nat) (W : World), RowG KPl W (some ⟨g, 0, none⟩) ps → RowG KBk W (some ⟨h, 0, none⟩) bs → Calls Try.prog 23 #[.agg #[.slice (some ⟨g, 0, none⟩) np np, .slice (some ⟨h, 0, none⟩) nb nb], .agg #[.bool pt.s, .int .i64 pt.H.toInt, .int .i64 pt.L.toInt, .int .i64 pt.b]] W fun e w' => ∃ a c b d, e = .returned (.tuple #[.agg #[.slice a NP c, .slice b NB d], .int .i64 C]) ∧ OwnG KPl 48 w' W.heap.size (.slice a NP c) PS ∧ OwnG KBk 56 w' W.heap.size (.slice b NB d) BS ∧ (∀ k, (Value.slice a NP c).ownBlock = some k → (Value.slice b NB d).ownBlock ≠ some k) ∧ Below W.heap.size W w') := by
  by_cases hr : planB ps bs = true
  · by_cases hk : pt.pk = true
    · rcases ixF_cases (fun q => peqB q.p pt) ps 0 with hp | ⟨i, hi, hp⟩
      · exact ⟨ps, np, bs, nb, 4, hnp, hnb, by omega, by omega, fun g h W e1 e2 => sDrop_c pt g h np nb ps bs W hnp hnb e1 e2 hl hl' hst hr hk hp, fun g h W e1 e2 => iDrop_c pt g h np nb ps bs W hnp hnb e1 e2 hl hl' hst hr hk hp⟩
      · have hp' : plc pt ps = (i : Int) := by rw [Nat.zero_add] at hp; exact hp
        have hi' : i < np := by omega
        by_cases hu : 0 < (fil bs pt).length
        · exact ⟨ps, np, bs, nb, 6, hnp, hnb, by omega, by omega, fun g h W e1 e2 => sDrop_d pt g h np nb ps bs W hnp hnb e1 e2 hl hl' hst hr hk i hp' hu, fun g h W e1 e2 => iDrop_d pt g h np nb ps bs W hnp hnb e1 e2 hl hl' hst hr hk i hp' hu⟩
        · have hu' : (fil bs pt).length = 0 := by omega
          refine ⟨ps.eraseIdx i, np - 1, bs, nb, 0, by rw [List.length_eraseIdx_of_lt hi, hnp], hnb, by omega, by omega, fun g h W e1 e2 => ?_, fun g h W e1 e2 => iDrop_e pt g h np nb ps bs W hnp hnb e1 e2 hl hl' hst hr hk i hi' hp' hu'⟩
          by_cases hcj : np = i + 1
          · exact sDrop_e0 pt g h np nb ps bs W hnp hnb e1 e2 hl hl' hst hr hk i hi' hcj hp' hu'
          · exact sDrop_e1 pt g h np nb ps bs W hnp hnb e1 e2 hl hl' hst hr hk i hi' hcj hp' hu'
    · have hk' : pt.pk = false := by simpa using hk
      exact ⟨ps, np, bs, nb, 1, hnp, hnb, by omega, by omega, fun g h W e1 e2 => sDrop_b pt g h np nb ps bs W hnp hnb e1 e2 hl hl' hst hr hk', fun g h W e1 e2 => iDrop_b pt g h np nb ps bs W hnp hnb e1 e2 hl hl' hst hr hk'⟩
  · have hr' : planB ps bs = false := by simpa using hr
    exact ⟨ps, np, bs, nb, 1, hnp, hnb, by omega, by omega, fun g h W e1 e2 => sDrop_a pt g h np nb ps bs W hnp hnb e1 e2 hl hl' hst hr', fun g h W e1 e2 => iDrop_a pt g h np nb ps bs W hnp hnb e1 e2 hl hl' hst hr'⟩

end Go.Proofs.Ythbpehpnikknlaa

namespace Go.Proofs.Ythbpehpnikknlaa
open Go.RowKit

/-- The figures of k ahead of out. -/
def mtR (k : Nat) (out : ByteArray) : ByteArray := if _h : k = 0 then out else mtR (k / 10) (strOfNums [48 + (k : Int) % 10] ++ out)
  termination_by k
  decreasing_by omega
theorem mtR_zero (out : ByteArray) : mtR 0 out = out := by unfold mtR; rw [dif_pos rfl]
theorem mtR_step {k : Nat} (h : k ≠ 0) (out : ByteArray) : mtR k out = mtR (k / 10) (strOfNums [48 + (k : Int) % 10] ++ out) := by conv => lhs; unfold mtR; rw [dif_neg h]
def mtT (k : Nat) : ByteArray := ⟨#[109]⟩ ++ mtR k ⟨#[]⟩
theorem ret_ba9 {a b : ByteArray} (h : a = b) : Ending.returned (.string a) = .returned (.string b) := by rw [h]
theorem ba_size (a b : ByteArray) : (a ++ b).size = a.size + b.size := by simp

theorem cvt1 (w : World) (c : Int) : (convert 120 9 (.slice (some ⟨w.heap.size, 0, none⟩) 1 1)).run Try.prog (w.alloc (.cells #[.int .u8 c] 5)) = .ok (.string (strOfNums [c])) (w.alloc (.cells #[.int .u8 c] 5)) :=
  run_convert_bytes_arg _ 120 5 Try.underlying120 Try.underlying5 w.heap.size 0 1 1 [c] rfl (by
    intro i hi
    have : i = 0 := by omega
    subst this
    simp [go_sem]) 9 Try.underlying9

set_option maxHeartbeats 1000000 in
theorem markText_any (k : Nat) (hk : 0 < k) (h9 : k ≤ 90000000000) (w : World) :
    Calls Try.prog 87 #[.int .i64 k] w fun e w' => e = .returned (.string (mtT k)) ∧ Below w.heap.size w w' := by
  have d1 : decide ((k : Int) ≤ 0) = false := decide_eq_false (by omega)
  go_enter Try.func87, Try.ntmps87
  go_wp2_with fail
  go_loopw [0, 3] (fun t0 t3 wr => ∃ (J : Int) (m : Nat) (out : ByteArray), t0 = .int .i64 J ∧ t3 = .string out ∧ 0 ≤ J ∧ J ≤ 90000000000 ∧ J.toNat < 10 ^ m ∧ out.size + m ≤ 20 ∧ mtR k ⟨#[]⟩ = mtR J.toNat out ∧ Below w.heap.size w wr) (fun t0 _ _ => (intOf t0).toNat)
  case atStart => exact ⟨k, 19, ⟨#[]⟩, rfl, rfl, by omega, by omega, by omega, by show 0 + 19 ≤ 20; omega, rfl, Below.refl _ _⟩
  case round =>
    obtain ⟨J, m, out, rfl, rfl, hJ0, hj9, hjm, hsz, heq, hbel⟩ := hrel
    have HM := hidP (And.intro hjm hsz)
    have hsz2 : out.size ≤ 20 := by omega
    clear hjm hsz
    by_cases h0 : J = 0
    · subst h0
      have HE : Hid (mtR k ⟨#[]⟩ = out) := hidP (heq.trans (mtR_zero out))
      have HB := hidP hbel
      clear heq hbel
      go_wp2_with fail
      go_ret
      exact ⟨ret_ba9 (by unfold mtT; rw [HE.out]), HB.out⟩
    · have g1 : decide ((0 : Int) < J) = true := decide_eq_true (by omega)
      have hst := mtR_step (k := J.toNat) (by omega) out
      rw [show ((J.toNat : Nat) : Int) = J by omega] at hst
      rw [hst] at heq
      clear hst
      have HE := hidP heq
      have HB := hidP hbel
      have hcv := cvt1 wr (48 + J % 10)
      have hw8 : IntKind.u8.wrap (48 + J % 10) = 48 + J % 10 := by simp [IntKind.wrap, IntKind.bits, IntKind.signed]; omega
      have hss : (strOfNums [48 + J % 10]).size = 1 := rfl
      clear heq hbel
      have HJ := hidP (And.intro hJ0 hj9)
      go_wp2_with fail
      go_roundw
      case rel =>
        have h10 : (J / 10).toNat = J.toNat / 10 := by have := HJ.out; omega
        have hm : m ≠ 0 := by
          intro h; have h1 := HM.out.1; rw [h] at h1; have h2 := HJ.out; omega
        refine ⟨J / 10, m - 1, _, rfl, rfl, by have := HJ.out; omega, by have := HJ.out; omega, ?_, ?_, ?_, HB.out.alloc HB.out.size _⟩
        · rw [h10]
          apply Nat.div_lt_of_lt_mul
          have := HM.out.1
          rw [show m = (m - 1) + 1 by omega, Nat.pow_succ, Nat.mul_comm] at this
          exact this
        · rw [ba_size, hss]; have := HM.out.2; omega
        · rw [h10]; exact HE.out
      case measure => simp [intOf]; have := HJ.out; omega

theorem markText_int (J : Int) (h0 : 0 < J) (h9 : J ≤ 90000000000) (w : World) :
    Calls Try.prog 87 #[.int .i64 J] w fun e w' => e = .returned (.string (mtT J.toNat)) ∧ Below w.heap.size w w' := by
  have := markText_any J.toNat (by omega) (by omega) w
  rw [show ((J.toNat : Nat) : Int) = J by omega] at this
  exact this

end Go.Proofs.Ythbpehpnikknlaa

namespace Go.Proofs.Ythbpehpnikknlaa
open Go.RowKit

/-- The marks of the j-th pool, and of the j-th block. -/
def mkPl (k : Int) (j : Nat) : Pl := ⟨⟨(k + 5 * (j : Int)) % 3 == 0, BitVec.ofInt 64 (k + 5 * (j : Int) + 1), BitVec.ofInt 64 (k + 5 * (j : Int) + 1 + 1), k + 5 * (j : Int) + 1 + 1 + 1⟩, k + 5 * (j : Int) + 1 + 1 + 1 + 1⟩
def mkBk (k : Int) (j : Nat) : Bk := ⟨⟨(k + 5 * (j : Int)) % 3 == 0, BitVec.ofInt 64 (k + 5 * (j : Int) + 1), BitVec.ofInt 64 (k + 5 * (j : Int) + 1 + 1), k + 5 * (j : Int) + 1 + 1 + 1⟩, mtT (k + 5 * (j : Int) + 1 + 1 + 1 + 1).toNat⟩
theorem ownsRow_later {w w' : World} {B k n : Nat} {t : TypeId} {v : Value} {xs : List Value} (h : w.ownsRow B t k v n xs) (hb : Below w.heap.size w w') : w'.ownsRow B t k v n xs := by
  refine ⟨h.1, ?_⟩
  rcases h.2 with h' | ⟨g, c, cur, h1, h2, h3, h4⟩
  · exact Or.inl h'
  · refine Or.inr ⟨g, c, cur, h1, h2, ?_, h4⟩
    have hg : g < w.heap.size := by
      rcases Nat.lt_or_ge g w.heap.size with h' | h'
      · exact h'
      · rw [Array.getElem?_eq_none h'] at h3; cases h3
    exact (hb.block g hg).trans h3
theorem grown_of {w w' : World} (h : Below w.heap.size w w') (r : Option Nat) : w.grownBy w' r := ⟨h.os, h.tape, h.output, h.size, fun k hk _ => h.block k hk⟩

set_option maxHeartbeats 2000000 in
theorem markPoolS_any (a : Option Addr) (n cap B : Nat) (ps : List Pl) (k : Int) (w : World) (hn : n = ps.length) (h : OwnG KPl 48 w B (.slice a n cap) ps) (hl : n ≤ 9000000000) (k0 : 0 < k) (k1 : k ≤ 9000000000) :
    Calls Try.prog 56 #[.slice a n cap, .int .i64 k] w fun e w' => e = .returned (.int .i64 (k + 5 * n)) ∧ OwnG KPl 48 w' B (.slice a n cap) (mksG (mkPl k) n) ∧ w.grownBy w' (Value.slice a n cap).ownBlock := by
  have hn' : ps.length = n := hn.symm
  clear hn
  by_cases h0 : n = 0
  · subst h0
    have HO := hidP h
    have HZ : Hid (ps = []) := List.length_eq_zero_iff.1 hn'
    clear h hn'
    go_enter Try.func56, Try.ntmps56
    go_wp2
    refine wp_loop_rounds 1 ?_
    rw [rounds_succ]
    go_wp2
    go_ret
    refine ⟨by simp, ?_, World.grownBy.refl _ _⟩
    have := HO.out; rw [HZ.out] at this; simpa [mksG] using this
  · obtain ⟨g, rfl⟩ : ∃ g, a = some ⟨g, 0, none⟩ := by
      rcases h.2 with ⟨hv, _⟩ | ⟨g, cap', cur, hv, _⟩
      · simp at hv; omega
      · simp at hv; exact ⟨g, hv.1⟩
    have HO : Hid (OwnG KPl 48 w B (.slice (some ⟨g, 0, none⟩) n cap) (mksG (mkPl k) 0 ++ ps.drop 0)) := by
      refine hidP ?_; simpa [mksG] using h
    have HN : Hid (ps.length = n) := hn'
    clear h hn'
    go_enter Try.func56, Try.ntmps56
    go_wp2
    go_loopw [1, 5] (fun t1 t5 wr => ∃ i : Nat, i ≤ n ∧ t5 = .int .i64 i ∧ t1 = .int .i64 (k + 5 * i) ∧ OwnG KPl 48 wr B (.slice (some ⟨g, 0, none⟩) n cap) (mksG (mkPl k) i ++ ps.drop i) ∧ w.grownBy wr (some g)) (fun _ t5 _ => n - (intOf t5).toNat)
    case atStart => exact ⟨0, Nat.zero_le _, rfl, by simp, HO.out, World.grownBy.refl _ _⟩
    case round =>
      obtain ⟨i, hi, rfl, rfl, hown, hgr⟩ := hrel
      have hlen : n = (mksG (mkPl k) i ++ ps.drop i).length := by rw [List.length_append, mksG_len, List.length_drop, HN.out]; omega
      by_cases hlt : i < n
      · obtain ⟨f0, f1, f2, f3, f4⟩ := frzPl hown i
        have e1 : (mkPl k i).p.H.toInt = k + 5 * (i : Int) + 1 := toI64 _ (by omega) (by omega)
        have e2 : (mkPl k i).p.L.toInt = k + 5 * (i : Int) + 1 + 1 := toI64 _ (by omega) (by omega)
        have e3 : (mkPl k i).p.b = k + 5 * (i : Int) + 1 + 1 + 1 := rfl
        have e0 : (mkPl k i).p.s = ((k + 5 * (i : Int)) % 3 == 0) := rfl
        have e4 : (mkPl k i).n = k + 5 * (i : Int) + 1 + 1 + 1 + 1 := rfl
        have hput' := putPl hown hlen i hlt (mkPl k i)
        rw [mksG_step (mkPl k) n i ps HN.out hlt, e0, e1, e2, e3, e4] at hput'
        clear e0 e1 e2 e3 e4
        obtain ⟨q', hp', _, c0, c1, c2, c3, c4⟩ := rowPl0 hown i (by rw [← hlen]; exact hlt)
        have HS := hidP hput'
        have HG := hidP hgr
        clear hown hgr HO hput' hlen
        go_wp2_with fail
        go_roundw
        case rel => exact ⟨i + 1, by omega, by go_num, by go_num, HS.out, ((((HG.out.trans (grown_cell _ g _ _)).trans (grown_cell _ g _ _)).trans (grown_cell _ g _ _)).trans (grown_cell _ g _ _)).trans (grown_cell _ g _ _)⟩
        case measure => simp [intOf]; omega
      · have hin : i = n := by omega
        subst hin
        have HS : Hid (OwnG KPl 48 wr B (.slice (some ⟨g, 0, none⟩) i cap) (mksG (mkPl k) i)) := by
          rw [List.drop_of_length_le (by rw [HN.out]; exact Nat.le_refl _), List.append_nil] at hown
          exact hidP hown
        have HG := hidP hgr
        clear hown hgr HO hlen
        go_wp2
        go_ret
        exact ⟨rfl, HS.out, HG.out⟩

set_option maxRecDepth 10000 in
set_option maxHeartbeats 1000000 in
theorem heldPoolS_any (a : Option Addr) (cap n : Nat) (k : Int) (w : World) (h : RowG KPl w a (mksG (mkPl k) n)) (hl : n ≤ 9000000000) (k0 : 0 < k) (k1 : k ≤ 9000000000) :
    Calls Try.prog 58 #[.slice a n cap, .int .i64 k] w fun e w' => e = .returned (.int .i64 (k + 5 * n)) ∧ Below w.heap.size w w' := by
  have HB := hidP h
  clear h
  go_enter Try.func58, Try.ntmps58
  go_wp2
  go_loopw [1, 5] (fun t1 t5 wr => ∃ i : Nat, i ≤ n ∧ t5 = .int .i64 i ∧ t1 = .int .i64 (k + 5 * i) ∧ Below w.heap.size w wr) (fun _ t5 _ => n - (intOf t5).toNat)
  case atStart => exact ⟨0, Nat.zero_le _, rfl, by simp, Below.refl _ _⟩
  case round =>
    obtain ⟨i, hi, rfl, rfl, hbel⟩ := hrel
    have HBel := hidP hbel
    by_cases hlt : i < n
    · obtain ⟨p, o, q, rfl, hp, hq, c0, c1, c2, c3, c4⟩ := rowPl HB.out i (by rw [mksG_len]; exact hlt)
      rw [mksG_at (mkPl k) n i hlt] at hq
      cases hq
      have e1 : (mkPl k i).p.H.toInt = k + 5 * (i : Int) + 1 := toI64 _ (by omega) (by omega)
      have e2 : (mkPl k i).p.L.toInt = k + 5 * (i : Int) + 1 + 1 := toI64 _ (by omega) (by omega)
      have d0 : wr.cell? ⟨p, o + i * 5, none⟩ = some (.bool ((k + 5 * (i : Int)) % 3 == 0)) := (hbel.cell hp).trans c0
      have d1 : wr.cell? ⟨p, o + i * 5 + 1, none⟩ = some (.int .i64 (k + 5 * (i : Int) + 1)) := by rw [← e1]; exact (hbel.cell hp).trans c1
      have d2 : wr.cell? ⟨p, o + i * 5 + 2, none⟩ = some (.int .i64 (k + 5 * (i : Int) + 1 + 1)) := by rw [← e2]; exact (hbel.cell hp).trans c2
      have d3 : wr.cell? ⟨p, o + i * 5 + 3, none⟩ = some (.int .i64 (k + 5 * (i : Int) + 1 + 1 + 1)) := (hbel.cell hp).trans c3
      have d4 : wr.cell? ⟨p, o + i * 5 + 4, none⟩ = some (.int .i64 (k + 5 * (i : Int) + 1 + 1 + 1 + 1)) := (hbel.cell hp).trans c4
      have dL : p < wr.heap.size := Nat.lt_of_lt_of_le hp hbel.size
      clear e1 e2 c0 c1 c2 c3 c4 hbel
      go_wp2
      go_roundw
      case rel => exact ⟨i + 1, by omega, by go_num, by go_num, HBel.out⟩
      case measure => simp [intOf]; omega
    · have hin : i = n := by omega
      subst hin
      clear hbel
      go_wp2
      go_ret
      exact ⟨rfl, HBel.out⟩

set_option maxHeartbeats 2000000 in
theorem markBlockS_any (a : Option Addr) (n cap B : Nat) (ps : List Bk) (k : Int) (w : World) (hn : n = ps.length) (h : OwnG KBk 56 w B (.slice a n cap) ps) (hl : n ≤ 9000000000) (k0 : 0 < k) (k1 : k ≤ 9000000000) :
    Calls Try.prog 57 #[.slice a n cap, .int .i64 k] w fun e w' => e = .returned (.int .i64 (k + 5 * n)) ∧ OwnG KBk 56 w' B (.slice a n cap) (mksG (mkBk k) n) ∧ w.grownBy w' (Value.slice a n cap).ownBlock := by
  have hn' : ps.length = n := hn.symm
  clear hn
  by_cases h0 : n = 0
  · subst h0
    have HO := hidP h
    have HZ : Hid (ps = []) := List.length_eq_zero_iff.1 hn'
    clear h hn'
    go_enter Try.func57, Try.ntmps57
    go_wp2
    refine wp_loop_rounds 1 ?_
    rw [rounds_succ]
    go_wp2
    go_ret
    refine ⟨by simp, ?_, World.grownBy.refl _ _⟩
    have := HO.out; rw [HZ.out] at this; simpa [mksG] using this
  · obtain ⟨g, rfl⟩ : ∃ g, a = some ⟨g, 0, none⟩ := by
      rcases h.2 with ⟨hv, _⟩ | ⟨g, cap', cur, hv, _⟩
      · simp at hv; omega
      · simp at hv; exact ⟨g, hv.1⟩
    have HO : Hid (OwnG KBk 56 w B (.slice (some ⟨g, 0, none⟩) n cap) (mksG (mkBk k) 0 ++ ps.drop 0)) := by
      refine hidP ?_; simpa [mksG] using h
    have HN : Hid (ps.length = n) := hn'
    clear h hn'
    go_enter Try.func57, Try.ntmps57
    go_wp2
    go_loopw [1, 5] (fun t1 t5 wr => ∃ i : Nat, i ≤ n ∧ t5 = .int .i64 i ∧ t1 = .int .i64 (k + 5 * i) ∧ OwnG KBk 56 wr B (.slice (some ⟨g, 0, none⟩) n cap) (mksG (mkBk k) i ++ ps.drop i) ∧ w.grownBy wr (some g)) (fun _ t5 _ => n - (intOf t5).toNat)
    case atStart => exact ⟨0, Nat.zero_le _, rfl, by simp, HO.out, World.grownBy.refl _ _⟩
    case round =>
      obtain ⟨i, hi, rfl, rfl, hown, hgr⟩ := hrel
      have hlen : n = (mksG (mkBk k) i ++ ps.drop i).length := by rw [List.length_append, mksG_len, List.length_drop, HN.out]; omega
      by_cases hlt : i < n
      · obtain ⟨f0, f1, f2, f3, f4⟩ := frzBk hown i
        have e1 : (mkBk k i).p.H.toInt = k + 5 * (i : Int) + 1 := toI64 _ (by omega) (by omega)
        have e2 : (mkBk k i).p.L.toInt = k + 5 * (i : Int) + 1 + 1 := toI64 _ (by omega) (by omega)
        have e3 : (mkBk k i).p.b = k + 5 * (i : Int) + 1 + 1 + 1 := rfl
        have e0 : (mkBk k i).p.s = ((k + 5 * (i : Int)) % 3 == 0) := rfl
        have hcs : KBk.cs (mkBk k i) = [.bool ((k + 5 * (i : Int)) % 3 == 0), .int .i64 (k + 5 * (i : Int) + 1), .int .i64 (k + 5 * (i : Int) + 1 + 1), .int .i64 (k + 5 * (i : Int) + 1 + 1 + 1)] ++ [.string (mtT (k + 5 * (i : Int) + 1 + 1 + 1 + 1).toNat)] := by
          show ([.bool (mkBk k i).p.s, .int .i64 (mkBk k i).p.H.toInt, .int .i64 (mkBk k i).p.L.toInt, .int .i64 (mkBk k i).p.b, .string (mkBk k i).t] : List Value) = _
          rw [e0, e1, e2, e3]; rfl
        have hfl := gflat_set KBk (mksG (mkBk k) i ++ ps.drop i) i (mkBk k i) (by rw [← hlen]; exact hlt)
        rw [mksG_step (mkBk k) n i ps HN.out hlt, hcs] at hfl
        have hlen2 : (mksG (mkBk k) (i + 1) ++ ps.drop (i + 1)).length = n := by rw [List.length_append, mksG_len, List.length_drop, HN.out]; omega
        have hraw : wr.ownsRow B 56 5 (.slice (some ⟨g, 0, none⟩) n cap) n (gflat KBk (mksG (mkBk k) i ++ ps.drop i)) := by
          have := hown; unfold OwnG at this; rw [← hlen] at this; exact this
        have h4 := puts_own [.bool ((k + 5 * (i : Int)) % 3 == 0), .int .i64 (k + 5 * (i : Int) + 1), .int .i64 (k + 5 * (i : Int) + 1 + 1), .int .i64 (k + 5 * (i : Int) + 1 + 1 + 1)] wr _ (i * 5) hraw
        obtain ⟨q', hp', _, c0, c1, c2, c3, c4⟩ := rowBk0 hown i (by rw [← hlen]; exact hlt)
        have c4' := World.ownsRow.cellAt h4 (i * 5 + 4) (by omega)
        have HF := hidP hfl
        have H4 := hidP h4
        have HL2 := hidP hlen2
        have HG := hidP hgr
        have HM := hidP (markText_int (k + 5 * (i : Int) + 1 + 1 + 1 + 1) (by omega) (by omega))
        have F4 := hidP (fun (w2 : World) (hb : Below ((((wr.setCell ⟨g, i * 5, none⟩ (.bool ((k + 5 * (i : Int)) % 3 == 0))).setCell ⟨g, i * 5 + 1, none⟩ (.int .i64 (k + 5 * (i : Int) + 1))).setCell ⟨g, i * 5 + 2, none⟩ (.int .i64 (k + 5 * (i : Int) + 1 + 1))).setCell ⟨g, i * 5 + 3, none⟩ (.int .i64 (k + 5 * (i : Int) + 1 + 1 + 1))).heap.size ((((wr.setCell ⟨g, i * 5, none⟩ (.bool ((k + 5 * (i : Int)) % 3 == 0))).setCell ⟨g, i * 5 + 1, none⟩ (.int .i64 (k + 5 * (i : Int) + 1))).setCell ⟨g, i * 5 + 2, none⟩ (.int .i64 (k + 5 * (i : Int) + 1 + 1))).setCell ⟨g, i * 5 + 3, none⟩ (.int .i64 (k + 5 * (i : Int) + 1 + 1 + 1))) w2) => And.intro (World.ownsRow.stored (ownsRow_later (show ((((wr.setCell ⟨g, i * 5, none⟩ (.bool ((k + 5 * (i : Int)) % 3 == 0))).setCell ⟨g, i * 5 + 1, none⟩ (.int .i64 (k + 5 * (i : Int) + 1))).setCell ⟨g, i * 5 + 2, none⟩ (.int .i64 (k + 5 * (i : Int) + 1 + 1))).setCell ⟨g, i * 5 + 3, none⟩ (.int .i64 (k + 5 * (i : Int) + 1 + 1 + 1))).ownsRow B 56 5 (.slice (some ⟨g, 0, none⟩) n cap) n _ from h4) hb) (i * 5 + 4) (.string (mtT (k + 5 * (i : Int) + 1 + 1 + 1 + 1).toNat))).1 (World.ownsRow.frozenAt (ownsRow_later (show ((((wr.setCell ⟨g, i * 5, none⟩ (.bool ((k + 5 * (i : Int)) % 3 == 0))).setCell ⟨g, i * 5 + 1, none⟩ (.int .i64 (k + 5 * (i : Int) + 1))).setCell ⟨g, i * 5 + 2, none⟩ (.int .i64 (k + 5 * (i : Int) + 1 + 1))).setCell ⟨g, i * 5 + 3, none⟩ (.int .i64 (k + 5 * (i : Int) + 1 + 1 + 1))).ownsRow B 56 5 (.slice (some ⟨g, 0, none⟩) n cap) n _ from h4) hb) (i * 5 + 4)))
        have hg4 : g < ((((wr.setCell ⟨g, i * 5, none⟩ (.bool ((k + 5 * (i : Int)) % 3 == 0))).setCell ⟨g, i * 5 + 1, none⟩ (.int .i64 (k + 5 * (i : Int) + 1))).setCell ⟨g, i * 5 + 2, none⟩ (.int .i64 (k + 5 * (i : Int) + 1 + 1))).setCell ⟨g, i * 5 + 3, none⟩ (.int .i64 (k + 5 * (i : Int) + 1 + 1 + 1))).heap.size := by simp; exact hp'
        have c4s : ((((wr.setCell ⟨g, i * 5, none⟩ (.bool ((k + 5 * (i : Int)) % 3 == 0))).setCell ⟨g, i * 5 + 1, none⟩ (.int .i64 (k + 5 * (i : Int) + 1))).setCell ⟨g, i * 5 + 2, none⟩ (.int .i64 (k + 5 * (i : Int) + 1 + 1))).setCell ⟨g, i * 5 + 3, none⟩ (.int .i64 (k + 5 * (i : Int) + 1 + 1 + 1))).cell? ⟨g, i * 5 + 4, none⟩ = some (.string q'.t) := by simp [go_sem, c4]
        have C4 := hidP (And.intro hg4 c4s)
        clear hown hgr HO hlen e0 e1 e2 e3 hcs hfl hraw h4 hlen2 c4' hg4 c4s
        go_wp2_with fail
        refine (HM.out _).mono ?_
        rintro e w2 ⟨rfl, hb2⟩
        have c4t := (hb2.cell C4.out.1).trans C4.out.2
        have fz := (F4.out w2 hb2).2
        have HS := hidP (F4.out w2 hb2).1
        have HG2 := hidP (((((HG.out.trans (grown_cell _ g _ _)).trans (grown_cell _ g _ _)).trans (grown_cell _ g _ _)).trans (grown_cell _ g _ _)).trans (grown_of hb2 (some g)))
        clear hb2 F4
        go_wp2_with fail
        go_roundw
        case rel =>
          refine ⟨i + 1, by omega, by go_num, by go_num, ?_, HG2.out.trans (grown_cell _ g _ _)⟩
          unfold OwnG
          rw [HL2.out, ← HF.out]
          exact HS.out
        case measure => simp [intOf]; omega
      · have hin : i = n := by omega
        subst hin
        have HS : Hid (OwnG KBk 56 wr B (.slice (some ⟨g, 0, none⟩) i cap) (mksG (mkBk k) i)) := by
          rw [List.drop_of_length_le (by rw [HN.out]; exact Nat.le_refl _), List.append_nil] at hown
          exact hidP hown
        have HG := hidP hgr
        clear hown hgr HO hlen
        go_wp2
        go_ret
        exact ⟨rfl, HS.out, HG.out⟩

set_option maxRecDepth 10000 in
set_option maxHeartbeats 1000000 in
theorem heldBlockS_any (a : Option Addr) (cap n : Nat) (k : Int) (w : World) (h : RowG KBk w a (mksG (mkBk k) n)) (hl : n ≤ 9000000000) (k0 : 0 < k) (k1 : k ≤ 9000000000) :
    Calls Try.prog 59 #[.slice a n cap, .int .i64 k] w fun e w' => e = .returned (.int .i64 (k + 5 * n)) ∧ Below w.heap.size w w' := by
  have HB := hidP h
  clear h
  go_enter Try.func59, Try.ntmps59
  go_wp2
  go_loopw [1, 5] (fun t1 t5 wr => ∃ i : Nat, i ≤ n ∧ t5 = .int .i64 i ∧ t1 = .int .i64 (k + 5 * i) ∧ Below w.heap.size w wr) (fun _ t5 _ => n - (intOf t5).toNat)
  case atStart => exact ⟨0, Nat.zero_le _, rfl, by simp, Below.refl _ _⟩
  case round =>
    obtain ⟨i, hi, rfl, rfl, hbel⟩ := hrel
    have HBel := hidP hbel
    by_cases hlt : i < n
    · obtain ⟨p, o, q, rfl, hp, hq, c0, c1, c2, c3, c4⟩ := rowBk HB.out i (by rw [mksG_len]; exact hlt)
      rw [mksG_at (mkBk k) n i hlt] at hq
      cases hq
      have e1 : (mkBk k i).p.H.toInt = k + 5 * (i : Int) + 1 := toI64 _ (by omega) (by omega)
      have e2 : (mkBk k i).p.L.toInt = k + 5 * (i : Int) + 1 + 1 := toI64 _ (by omega) (by omega)
      have d0 : wr.cell? ⟨p, o + i * 5, none⟩ = some (.bool ((k + 5 * (i : Int)) % 3 == 0)) := (hbel.cell hp).trans c0
      have d1 : wr.cell? ⟨p, o + i * 5 + 1, none⟩ = some (.int .i64 (k + 5 * (i : Int) + 1)) := by rw [← e1]; exact (hbel.cell hp).trans c1
      have d2 : wr.cell? ⟨p, o + i * 5 + 2, none⟩ = some (.int .i64 (k + 5 * (i : Int) + 1 + 1)) := by rw [← e2]; exact (hbel.cell hp).trans c2
      have d3 : wr.cell? ⟨p, o + i * 5 + 3, none⟩ = some (.int .i64 (k + 5 * (i : Int) + 1 + 1 + 1)) := (hbel.cell hp).trans c3
      have d4 : wr.cell? ⟨p, o + i * 5 + 4, none⟩ = some (.string (mtT (k + 5 * (i : Int) + 1 + 1 + 1 + 1).toNat)) := (hbel.cell hp).trans c4
      have dL : p < wr.heap.size := Nat.lt_of_lt_of_le hp hbel.size
      clear e1 e2 c0 c1 c2 c3 c4 hbel
      have HM := hidP (markText_int (k + 5 * (i : Int) + 1 + 1 + 1 + 1) (by omega) (by omega))
      go_wp2_with fail
      have HSx : Hid (∀ x, Below wr.heap.size wr x → (x.cell? ⟨p, o + i * 5 + 4, none⟩ = some (.string (mtT (k + 5 * (i : Int) + 1 + 1 + 1 + 1).toNat)) ∧ Below wr.heap.size wr x)) := hidP fun x h =>
        ⟨(h.cell dL).trans d4, h⟩
      refine wp_region_held_drew (S := (fun x => x.cell? ⟨p, o + i * 5 + 4, none⟩ = some (.string (mtT (k + 5 * (i : Int) + 1 + 1 + 1 + 1).toNat)) ∧ Below wr.heap.size wr x)) (by kernel_rfl) ?_ (fun hHeld => ?_)
      · try dsimp only
        exact HSx.out _ (Below.refl _ _).drew
      refine wpAnyH_take (i := 0) (oi := ⟨some 57, _, _, _, _, _⟩) (v := ?_) rfl (by kernel_rfl) (by kernel_rfl) (by kernel_rfl) (fun _ _ _ h => h) (Or.inl ⟨by rfl, ?_⟩) (by assumption) ?_
      rotate_left
      · intro w hSw
        try dsimp only at hSw
        go_simp
        try with_reducible rfl
      simp only [Act.put, List.setIfInBounds_toArray, List.set_cons_zero, List.set_cons_succ]
      refine wpAnyH_take (i := 1) (oi := ⟨some 58, _, _, _, _, _⟩) (v := ?_) rfl (by kernel_rfl) (by kernel_rfl) (by kernel_rfl) (fun _ _ _ h => h) (Or.inl ⟨by rfl, ?_⟩) (by assumption) ?_
      rotate_left
      · intro w hSw
        try dsimp only at hSw
        go_simp
        try with_reducible rfl
      simp only [Act.put, List.setIfInBounds_toArray, List.set_cons_zero, List.set_cons_succ]
      refine wpAnyH_take (i := 2) (oi := ⟨some 59, _, _, _, _, _⟩) (v := ?_) rfl (by kernel_rfl) (by kernel_rfl) (by kernel_rfl) (fun _ _ _ h => h) (Or.inl ⟨by rfl, ?_⟩) (by assumption) ?_
      rotate_left
      · intro w hSw
        try dsimp only at hSw
        go_simp
        try with_reducible rfl
      simp only [Act.put, List.setIfInBounds_toArray, List.set_cons_zero, List.set_cons_succ]
      refine wpAnyH_take (i := 3) (oi := ⟨some 60, _, _, _, _, _⟩) (v := ?_) rfl (by kernel_rfl) (by kernel_rfl) (by kernel_rfl) (fun _ _ _ h => h) (Or.inl ⟨by rfl, ?_⟩) (by assumption) ?_
      rotate_left
      · intro w hSw
        try dsimp only at hSw
        go_simp
        try with_reducible rfl
      simp only [Act.put, List.setIfInBounds_toArray, List.set_cons_zero, List.set_cons_succ]
      refine wpAnyH_take (i := 4) (oi := ⟨some 61, _, _, _, _, _⟩) (v := ?_) rfl (by kernel_rfl) (by kernel_rfl) (by kernel_rfl) (fun _ _ _ h => h) (Or.inl ⟨by rfl, ?_⟩) (by assumption) ?_
      rotate_left
      · intro w hSw
        try dsimp only at hSw
        go_simp
        try with_reducible rfl
      simp only [Act.put, List.setIfInBounds_toArray, List.set_cons_zero, List.set_cons_succ]
      refine wpAnyH_take (i := 5) (oi := ⟨some 62, _, _, _, _, _⟩) (v := ?_) rfl (by kernel_rfl) (by kernel_rfl) (by kernel_rfl) (fun _ _ _ h => h) (Or.inl ⟨by rfl, ?_⟩) (by assumption) ?_
      rotate_left
      · intro w hSw
        try dsimp only at hSw
        go_simp
        try with_reducible rfl
      simp only [Act.put, List.setIfInBounds_toArray, List.set_cons_zero, List.set_cons_succ]
      refine wpAnyH_ready (rs := [6]) (by kernel_rfl) (by simp) ?_
      refine AllReadyH.cons rfl (fun K hK => ?_) AllReadyH.nil
      go_simp
      go_wp2_with (first | (go_at_call 87; refine (HM.out _).mono ?_; rintro e w2 ⟨rfl, hb2⟩; have b2 := (hHeld.2).trans (hb2.mono (hHeld.2).size)))
      refine hK.out _ _ ?_ (fun hHeld => ?_)
      · try dsimp only
        exact HSx.out _ b2
      clear hK K
      refine wpAnyH_take (i := 7) (oi := ⟨some 64, _, _, _, _, _⟩) (v := ?_) rfl (by kernel_rfl) (by kernel_rfl) (by kernel_rfl) (fun _ _ _ h => h) (Or.inl ⟨by rfl, ?_⟩) (by assumption) ?_
      rotate_left
      · intro w hSw
        try dsimp only at hSw
        go_simp
        try with_reducible rfl
      simp only [Act.put, List.setIfInBounds_toArray, List.set_cons_zero, List.set_cons_succ]
      have HE := hidP (hHeld.2)
      refine wpAnyH_done (by kernel_rfl) ?_ _
      clear hHeld
      go_wp2_with fail
      go_roundw
      case rel => exact ⟨i + 1, by omega, by go_num, by go_num, HBel.out.trans (HE.out.mono HBel.out.size)⟩
      case measure => simp [intOf]; omega
    · have hin : i = n := by omega
      subst hin
      clear hbel
      go_wp2
      go_ret
      exact ⟨rfl, HBel.out⟩

end Go.Proofs.Ythbpehpnikknlaa

namespace Go.Proofs.Ythbpehpnikknlaa
open Go.RowKit

set_option maxHeartbeats 1000000 in
theorem markPlan_any (ap : Option Addr) (np cp : Nat) (ab : Option Addr) (nb cb : Nat) (ps : List Pl) (bs : List Bk) (B : Nat) (k : Int) (w : World) (hnp : np = ps.length) (hnb : nb = bs.length) (hO1 : OwnG KPl 48 w B (.slice ap np cp) ps) (hO2 : OwnG KBk 56 w B (.slice ab nb cb) bs) (hne : ∀ k, (Value.slice ap np cp).ownBlock = some k → (Value.slice ab nb cb).ownBlock ≠ some k) (h1 : np ≤ 2000000) (h2 : nb ≤ 2000000) (k0 : 0 < k) (k1 : k ≤ 1000) :
    Calls Try.prog 19 #[.agg #[.slice ap np cp, .slice ab nb cb], .int .i64 k] w fun e w' => e = .returned (.int .i64 (k + 5 * np + 5 * nb)) ∧ OwnG KPl 48 w' B (.slice ap np cp) (mksG (mkPl k) np) ∧ OwnG KBk 56 w' B (.slice ab nb cb) (mksG (mkBk (k + 5 * np)) nb) ∧ ∃ wm, w.grownBy wm (Value.slice ap np cp).ownBlock ∧ wm.grownBy w' (Value.slice ab nb cb).ownBlock := by
  have hl1 := fun k hk => (OwnG.lt hO1 k hk).2
  have HO := hidP (And.intro hO1 hO2)
  have HNE := hidP hne
  have HN := hidP (And.intro hnp hnb)
  have HL1 := hidP hl1
  clear hO1 hO2 hne hnp hnb hl1
  go_enter Try.func19, Try.ntmps19
  go_wp2_with fail
  obtain ⟨u0, u1⟩ := box2 (u := .slice ap np cp) (v := .slice ab nb cb) w 32
  have uB := alloc_below w (.cells #[.slice ap np cp, .slice ab nb cb] 32)
  have uL := alloc_lt w (.cells #[.slice ap np cp, .slice ab nb cb] 32)
  have uS : (w.alloc (.cells #[.slice ap np cp, .slice ab nb cb] 32)).heap.size = w.heap.size + 1 := by simp
  generalize w.alloc (.cells #[.slice ap np cp, .slice ab nb cb] 32) = W1 at *
  refine (markPoolS_any ap np cp B ps k W1 HN.out.1 (HO.out.1.later uB) (by omega) k0 (by omega)).mono ?_
  rintro e w2 ⟨rfl, o2, g2⟩
  have hob := OwnG.grown (HO.out.2.later uB) g2 (fun j hj h => HNE.out j h hj)
  have c1 : w2.cell? ⟨w.heap.size, 1, none⟩ = some (.slice ab nb cb) := (World.cell?_of_block (g2.block w.heap.size uL (fun e => by have := HL1.out _ e.symm; omega))).trans u1
  have G2 := hidP ((grown_of uB _).trans g2)
  have O2 := hidP (And.intro o2 hob)
  clear g2 o2 hob uB uS u0 u1 uL
  go_wp2_with fail
  refine (markBlockS_any ab nb cb B bs (k + 5 * np) w2 HN.out.2 O2.out.2 (by omega) (by omega) (by omega)).mono ?_
  rintro e w3 ⟨rfl, o3, g3⟩
  have op := OwnG.grown O2.out.1 g3 (fun j hj h => HNE.out j hj h)
  have F := hidP (And.intro op (And.intro o3 g3))
  clear op o3 g3 c1
  go_wp2_with fail
  go_ret
  exact ⟨rfl, F.out.1, F.out.2.1, w2, G2.out, F.out.2.2⟩

set_option maxHeartbeats 1000000 in
theorem heldPlan_any (ap : Option Addr) (np cp : Nat) (ab : Option Addr) (nb cb : Nat) (k : Int) (w : World) (hP : RowG KPl w ap (mksG (mkPl k) np)) (hK : RowG KBk w ab (mksG (mkBk (k + 5 * np)) nb)) (h1 : np ≤ 2000000) (h2 : nb ≤ 2000000) (k0 : 0 < k) (k1 : k ≤ 1000) :
    Calls Try.prog 20 #[.agg #[.slice ap np cp, .slice ab nb cb], .int .i64 k] w fun e w' => e = .returned (.int .i64 (k + 5 * np + 5 * nb)) ∧ Below w.heap.size w w' := by
  have HP := hidP (fun W h => heldPoolS_any ap cp np k W (hP.later h) (by omega) k0 (by omega))
  have HB := hidP (fun W h => heldBlockS_any ab cb nb (k + 5 * np) W (hK.later h) (by omega) (by omega) (by omega))
  have d1 : decide (k + 5 * (np : Int) < 0) = false := decide_eq_false (by omega)
  have d2 : decide (k + 5 * (np : Int) + 5 * (nb : Int) < 0) = false := decide_eq_false (by omega)
  have d3 : ¬ (k + 5 * (np : Int) < 0) := by omega
  have d4 : ¬ (k + 5 * (np : Int) + 5 * (nb : Int) < 0) := by omega
  clear hP hK
  go_enter Try.func20, Try.ntmps20
  go_wp2_with fail
  obtain ⟨u0, u1⟩ := box2 (u := .slice ap np cp) (v := .slice ab nb cb) w 32
  have uB := alloc_below w (.cells #[.slice ap np cp, .slice ab nb cb] 32)
  have uL := alloc_lt w (.cells #[.slice ap np cp, .slice ab nb cb] 32)
  have uS : (w.alloc (.cells #[.slice ap np cp, .slice ab nb cb] 32)).heap.size = w.heap.size + 1 := by simp
  generalize w.alloc (.cells #[.slice ap np cp, .slice ab nb cb] 32) = W1 at *
  have HU := hidP uB
  refine (HP.out _ uB).mono ?_
  rintro e w2 ⟨rfl, hb2⟩
  have c1 := (hb2.cell uL).trans u1
  have B2 := hidP (HU.out.trans (hb2.mono HU.out.size))
  clear uB uS u0 u1 hb2
  go_wp2_with fail
  refine (HB.out _ B2.out).mono ?_
  rintro e w3 ⟨rfl, hb3⟩
  have B3 := hidP (B2.out.trans (hb3.mono B2.out.size))
  clear hb3
  go_wp2_with fail
  go_ret
  exact ⟨rfl, B3.out⟩

end Go.Proofs.Ythbpehpnikknlaa
