/-
  The library's sort of rows of right blocks by their prefixes.
-/
import Derived.Test.YtdbcdichmmcnbaaGreatZK13
import Derived.Test.YtdbcdichmmcnbaaGreatZK24
import Derived.Test.YtdbcdichmmcnbaaGreatZK19
import Derived.Test.YtdbcdichmmcnbaaGreatShelfS
import Derived.Lib.QuietBelow
import Derived.Shelf.SlSortCmp.NoneTotal
import Derived.Test.YtdbcdichmmcnbaaGreatZK12
import Derived.Test.YtdbcdichmmcnbaaGreatZK3
import Derived.Deep.RegionWith
import Derived.Deep.DeepCutAuto
import Derived.Test.YtdbcdichmmcnbaaGreatZK14
namespace Go.Proofs.YtdbcdichmmcnbaaGreat
open Go.RowKit Go.Sort Go.Shelf

theorem iCmpPM (p q : Pf) (hp : p.pk = true) (hq : q.pk = true) (w : World) :
    Calls Tryz.prog 108 #[.agg #[.bool p.s, .int .i64 p.H.toInt, .int .i64 p.L.toInt, .int .i64 p.b], .agg #[.bool q.s, .int .i64 q.H.toInt, .int .i64 q.L.toInt, .int .i64 q.b]] w fun e w' => e = .returned (.int .i64 (cmpP p q)) ∧ Mn.Below w.heap.size w w' := by
  have h := (pokB_parts hp).1
  have h' := (pokB_parts hq).1
  have hz : Nrm p.s p.H.toInt p.L.toInt p.s p.H.toInt p.L.toInt := Or.inl ⟨h, rfl, rfl, rfl⟩
  have hz' : Nrm q.s q.H.toInt q.L.toInt q.s q.H.toInt q.L.toInt := Or.inl ⟨h', rfl, rfl, rfl⟩
  obtain ⟨r0, r1, r2, hr, rt, rf, r2e⟩ := Rank_ex p.s p.H.toInt p.L.toInt
  obtain ⟨q0, q1, q2, hr', qt, qf, q2e⟩ := Rank_ex q.s q.H.toInt q.L.toInt
  have hi := Mn.iCmp_ne p.s p.H.toInt p.L.toInt q.s q.H.toInt q.L.toInt p.s p.H.toInt p.L.toInt q.s q.H.toInt q.L.toInt r0 r1 r2 q0 q1 q2 hz hr hz' hr'
  rw [wrapU] at rt r2e qt q2e
  have hk := cmp_keys p.s p.H p.L q.s q.H q.L h h' r0 r1 r2 q0 q1 q2 ⟨rt, rf, r2e⟩ ⟨qt, qf, q2e⟩
  rw [hk] at hi
  exact Mn.iCmpPrefix_any p.s p.H.toInt p.L.toInt p.b q.s q.H.toInt q.L.toInt q.b _ hi w

set_option maxHeartbeats 1000000 in
theorem cmpBlockM (x y : Bk) (hx : x.p.pk = true) (hy : y.p.pk = true) (w : World) :
    Calls Tryz.prog 89 #[.agg #[.bool x.p.s, .int .i64 x.p.H.toInt, .int .i64 x.p.L.toInt, .int .i64 x.p.b, .string x.t], .agg #[.bool y.p.s, .int .i64 y.p.H.toInt, .int .i64 y.p.L.toInt, .int .i64 y.p.b, .string y.t]] w fun e w' => e = .returned (.int .i64 (cmpP x.p y.p)) ∧ Mn.Below w.heap.size w w' := by
  have HC := hidP (iCmpPM x.p y.p hx hy)
  clear hx hy
  go_enter Tryz.func89, Tryz.ntmps89
  go_wp2_with fail
  refine (HC.out _).mono ?_
  rintro e w2 ⟨rfl, hb2⟩
  have B2 := hidP (((Mn.Below.refl w.heap.size w).alloc (Nat.le_refl _) (.cells #[.bool x.p.s, .int .i64 x.p.H.toInt, .int .i64 x.p.L.toInt, .int .i64 x.p.b, .string x.t] 38)).alloc (by simp) (.cells #[.bool y.p.s, .int .i64 y.p.H.toInt, .int .i64 y.p.L.toInt, .int .i64 y.p.b, .string y.t] 38))
  have B3 := hidP (B2.out.trans (hb2.mono (by simp; omega)))
  clear hb2
  go_wp2_with fail
  go_ret
  exact ⟨rfl, B3.out⟩
theorem grow_ofM {w w' : World} (h : Mn.Below w.heap.size w w') : ∃ q os', w' = grow (w.drewN q) os' := by
  obtain ⟨p, hp⟩ := regrown_of_below h.b
  refine ⟨w'.drawn - w.drawn, p.os, ?_⟩
  have hd : w'.drawn = p.d := by rw [hp]; rfl
  have e : redrawn w p.d = w.drewN (w'.drawn - w.drawn) := by
    have := h.d
    unfold redrawn World.drewN
    congr 1
    omega
  rw [← e]; exact hp

/-- A block that is right. -/
def RB : Type := { q : Bk // q.p.pk = true }
instance : Inhabited RB := ⟨⟨⟨⟨false, 0, 0, 0⟩, ⟨#[]⟩⟩, by kernel_rfl⟩⟩
def cfB (x y : RB) : Int := cmpP x.1.p y.1.p
def csB (x : RB) : List Value := x.1.cs
theorem swoB : SWO (ltOf cfB) := by
  refine ⟨fun x => ?_, fun x y z h1 h2 => ?_, fun x y z h1 h2 => ?_⟩
  · refine decide_eq_false ?_
    show ¬ cmpP x.1.p x.1.p < 0
    rw [cmp_neg]
    cases hx : x.1.p.s <;> simp
  · have h1' : cmpP x.1.p y.1.p < 0 := of_decide_eq_true h1
    have h2' : cmpP y.1.p z.1.p < 0 := of_decide_eq_true h2
    refine decide_eq_true ?_
    show cmpP x.1.p z.1.p < 0
    rw [cmp_neg] at h1' h2' ⊢
    cases hx : x.1.p.s <;> cases hy : y.1.p.s <;> cases hz : z.1.p.s <;> simp [hx, hy, hz] at h1' h2' ⊢ <;> omega
  · have h1' : ¬ cmpP x.1.p y.1.p < 0 := of_decide_eq_false h1
    have h2' : ¬ cmpP y.1.p z.1.p < 0 := of_decide_eq_false h2
    refine decide_eq_false ?_
    show ¬ cmpP x.1.p z.1.p < 0
    rw [cmp_neg] at h1' h2' ⊢
    cases hx : x.1.p.s <;> cases hy : y.1.p.s <;> cases hz : z.1.p.s <;> simp [hx, hy, hz] at h1' h2' ⊢ <;> omega
theorem laysB (blk off size : Nat) (w : World) : CmpLays Tryz.prog 89 #[] csB 5 cfB blk off size w := fun _ _ _ _ x y =>
  (cmpBlockM x.1 y.1 x.2 y.2 _).mono fun _ _ h => ⟨h.1, grow_ofM h.2⟩

end Go.Proofs.YtdbcdichmmcnbaaGreat

/-
  The library's SortFunc, Collect and SortedFunc at blocks, and the program's rising: the blocks of a map in the order of their prefixes.
-/
namespace Go.Proofs.YtdbcdichmmcnbaaGreat
open Go.RowKit Go.Sort Go.Shelf Go.Maps

theorem flat_gf (d : Array RB) : ∀ t, t < d.size * 5 → (gflat KBk (d.toList.map (fun x => x.1)))[t]? = some ((csB d[t / 5]!)[t % 5]!) := fun t ht => by
  have hj : t / 5 < d.size := by omega
  have hq : (d.toList.map (fun x => x.1))[t / 5]? = some (d[t / 5]!).1 := by
    rw [List.getElem?_map, Array.getElem?_toList, getElem!_pos d (t / 5) hj]
    simp [hj]
  have h1 := gflat_at KBk _ (t / 5) _ hq (t % 5) (by show t % 5 < 5; omega)
  have e : t / 5 * KBk.k + t % 5 = t := by show t / 5 * 5 + t % 5 = t; omega
  rw [e] at h1
  rw [h1]
  have hl : t % 5 < (csB d[t / 5]!).length := by show t % 5 < 5; omega
  show (csB d[t / 5]!)[t % 5]? = _
  rw [List.getElem?_eq_getElem hl, getElem!_pos (csB d[t / 5]!) (t % 5) hl]
theorem flat_list (d : Array RB) : gflat KBk (d.toList.map (fun x => x.1)) = (flatK csB 5 d).toList := by
  apply List.ext_getElem?
  intro t
  by_cases ht : t < d.size * 5
  · rw [flat_gf d t ht, Array.getElem?_toList]
    simp [flatK, ht]
  · rw [List.getElem?_eq_none (by rw [gflat_len]; simp; show d.size * 5 ≤ t; omega), List.getElem?_eq_none (by simp; omega)]
theorem holdsB {w : World} {B g n cap : Nat} {t : TypeId} (d : Array RB) (hn : n = d.size) (h : OwnG KBk t w B (.slice (some ⟨g, 0, none⟩) n cap) (d.toList.map (fun x => x.1))) : HoldsK csB 5 w g 0 d := fun j hj => by
  rw [size_flatK] at hj
  have hlen : (d.toList.map (fun x => x.1)).length = d.size := by simp
  unfold OwnG at h
  rw [hlen] at h
  subst hn
  have hc := World.ownsRow.cellAt h j (by show j < d.size * 5; omega)
  have hf := World.ownsRow.frozenAt h j
  rw [Nat.zero_add]
  refine ⟨?_, hf⟩
  rw [hc, get_flatK csB 5 d j hj]
  exact flat_gf d j hj
theorem ownSorted {w : World} {B g n cap m : Nat} {t : TypeId} {os : Array Obj} (d d' : Array RB) (hs : d'.size = d.size) (hn : n = d.size) (h : OwnG KBk t w B (.slice (some ⟨g, 0, none⟩) n cap) (d.toList.map (fun x => x.1))) :
    OwnG KBk t (sortWorldK csB 5 w g 0 m d' os) B (.slice (some ⟨g, 0, none⟩) n cap) (d'.toList.map (fun x => x.1)) ∧ w.grownBy (sortWorldK csB 5 w g 0 m d' os) (some g) := by
  rcases h.2 with ⟨hv, _⟩ | ⟨g', cap', cur, hv, hb, hr, h1, h2, h3, h4⟩
  · simp at hv
  · simp only [Value.slice.injEq, Option.some.injEq, Addr.mk.injEq, and_true] at hv
    obtain ⟨rfl, hnl, rfl⟩ := hv
    have hgl : g < w.heap.size := (Array.getElem?_eq_some_iff.1 hr).1
    have h3' : cur.size = cap * 5 := h3
    have hl : (d.toList.map (fun x => x.1)).length = d.size := by simp
    have hl' : (d'.toList.map (fun x => x.1)).length = d.size := by simp [hs]
    rw [hl] at h1
    have hh : (sortWorldK csB 5 w g 0 m d' os).heap[g]? = some (.cells (putCells id 0 (flatK csB 5 d') cur) t (0, 0)) := by
      unfold sortWorldK
      rw [heap_grow_old _ _ (by simpa [putRowK] using hgl)]
      simp [putRowK, putRow, mapBlock, Sort.ahead, Array.getElem?_modify, hr, onCells]
    refine ⟨⟨by rw [gflat_len], Or.inr ⟨g, cap, _, by rw [hl', hn], hb, hh, by rw [hl']; exact h1, h2, by simp [putCells]; exact h3', ?_⟩⟩, ?_⟩
    · rw [hl', flat_list d']
      apply List.ext_getElem?
      intro j
      show ((putCells id 0 (flatK csB 5 d') cur).toList.take (d.size * 5))[j]? = _
      by_cases hj : j < d.size * 5
      · rw [List.getElem?_take_of_lt hj, Array.getElem?_toList, Array.getElem?_toList]
        have hjc : j < cur.size := by rw [h3']; omega
        have hjf : j < (flatK csB 5 d').size := by rw [size_flatK, hs]; exact hj
        simp only [putCells, Nat.zero_le, true_and, Nat.zero_add, Nat.sub_zero]
        have hjf' : j < d'.size * 5 := by rw [hs]; exact hj
        simp [hjc, hjf', getElem!_pos]
      · rw [List.getElem?_take_eq_none (by omega), List.getElem?_eq_none (by simp; omega)]
    · refine ⟨rfl, rfl, rfl, by simp [sortWorldK, putRowK], fun k hk hne => ?_⟩
      have hkg : ¬ g = k := fun e => hne (by rw [e])
      unfold sortWorldK
      rw [heap_grow_old _ _ (by simpa [putRowK] using hk)]
      simp [putRowK, putRow, mapBlock, Sort.ahead, Array.getElem?_modify, hkg]

theorem mapVal : ∀ {ys : List Bk} (hA : ∀ y ∈ ys, y.p.pk = true), (ys.pmap (fun y h => (⟨y, h⟩ : RB)) hA).toArray.toList.map (fun x => x.1) = ys
  | [], _ => rfl
  | y :: r, hA => congrArg (y :: ·) (mapVal (ys := r) fun z hz => hA z (List.mem_cons_of_mem _ hz))

set_option maxRecDepth 10000 in
theorem sortB_any (g n cap B : Nat) (ys : List Bk) (hn : n = ys.length) (hA : ∀ y ∈ ys, y.p.pk = true) (hl : n ≤ 100000) (w : World) (h : OwnG KBk 38 w B (.slice (some ⟨g, 0, none⟩) n cap) ys) :
    Calls Tryz.prog 123 #[.slice (some ⟨g, 0, none⟩) n cap, .func (.func 89) #[] #[]] w fun e w' => e = .returned (.tuple #[]) ∧ (∃ R : List Bk, R.Perm ys ∧ R.Pairwise (fun x y => ¬ cmpP y.p x.p < 0) ∧ OwnG KBk 38 w' B (.slice (some ⟨g, 0, none⟩) n cap) R) ∧ w.grownBy w' (some g) := by
  obtain ⟨d, hd⟩ : ∃ d : Array RB, d.toList.map (fun x => x.1) = ys := ⟨(ys.pmap (fun y h => (⟨y, h⟩ : RB)) hA).toArray, mapVal hA⟩
  have hds : d.size = n := by rw [hn, ← hd]; simp
  subst hd
  have hgl : g < w.heap.size := (OwnG.lt h g rfl).2
  have hS := AnyQ.slices_SortFunc Tryz.sortF 5 (fun w => Tryz.isAgg38 w) (fun w => Tryz.sizeOf38 w) csB (fun x => rfl) (fun x v hv => KBk.one x.1 v hv) cfB swoB 89 #[] g 0 cap d w (enters_of Tryz.func89 (by kernel_rfl) rfl) (laysB g 0 d.size w) (holdsB d hds.symm h) hgl (by omega)
  rw [hds] at hS
  refine Calls.mono hS ?_
  rintro e w' ⟨rfl, d', m, os, hp, hs, rfl⟩
  obtain ⟨ho, hg⟩ := ownSorted (m := m) (os := os) d d' hp.1 hds.symm h
  refine ⟨rfl, ⟨_, ?_, ?_, ho⟩, hg⟩
  · have h9 := hp.2.2
    rw [← hds] at h9
    have e1 : d'.extract 0 d.size = d' := by rw [← hp.1]; simp
    rw [e1, Array.extract_size] at h9
    exact h9.map _
  · rw [List.pairwise_map, List.pairwise_iff_getElem]
    intro i j hi hj hij
    have h9 := hs i j (Nat.zero_le _) hij (by rw [← hds, ← hp.1]; simpa using hj)
    have hi' : i < d'.size := by simpa using hi
    have hj' : j < d'.size := by simpa using hj
    rw [getElem!_pos d' i hi', getElem!_pos d' j hj'] at h9
    exact of_decide_eq_false h9

end Go.Proofs.YtdbcdichmmcnbaaGreat

/-
  The library's Collect and SortedFunc at blocks, and the program's rising: the blocks of a map in the order of their prefixes.
-/
namespace Go.Proofs.YtdbcdichmmcnbaaGreat
open Go.RowKit Go.Sort Go.Shelf Go.Maps

set_option maxHeartbeats 1000000 in
theorem collectB (gf : Nat) (lb : Array Value) (eg : ∀ args w, (callFunc gf args).run Tryz.prog w = .ok (.enter gf args) w) (N : Nat) (hl : N ≤ 100000) (Fu : List Bk → Prop) (R : Nat → Prop) (B : Nat) (w : World) (hit : IterS Tryz.prog gf lb encBk (fun ys => ys.length ≤ N) Fu R w) (hR : ∀ k, R k → k < w.heap.size) (hB : B ≤ w.heap.size) :
    Calls Tryz.prog 122 #[.func (.func gf) #[] lb] w fun e w' => ∃ a' n' c' ys, e = .returned (.slice a' n' c') ∧ n' = ys.length ∧ Fu ys ∧ n' ≤ N ∧ OwnG KBk 38 w' B (.slice a' n' c') ys ∧ Below B w w' := by
  have HC := hidP (appSeqB gf lb eg N hl Fu R B w hit hR hB)
  clear hit hR eg
  go_enter Tryz.func122, Tryz.ntmps122
  go_wp2_with fail
  refine HC.out.mono ?_
  rintro e w2 ⟨a', n', c', ys, rfl, h1⟩
  have H1 := hidP h1
  clear h1 HC
  go_wp2_with fail
  go_ret
  exact ⟨a', n', c', ys, rfl, H1.out⟩

theorem sortAny (a : Option Addr) (n cap B : Nat) (ys : List Bk) (hn : n = ys.length) (hA : ∀ y ∈ ys, y.p.pk = true) (hl : n ≤ 100000) (w : World) (h : OwnG KBk 38 w B (.slice a n cap) ys) (hB : B ≤ w.heap.size) :
    Calls Tryz.prog 123 #[.slice a n cap, .func (.func 89) #[] #[]] w fun e w' => e = .returned (.tuple #[]) ∧ (∃ R : List Bk, R.Perm ys ∧ R.Pairwise (fun x y => ¬ cmpP y.p x.p < 0) ∧ OwnG KBk 38 w' B (.slice a n cap) R) ∧ Below B w w' := by
  rcases h.2 with ⟨hv, he⟩ | ⟨g, cap', cur, hv, hb, hr⟩
  · obtain ⟨rfl, rfl, rfl⟩ := Value.slice.inj hv
    have : ys = [] := List.eq_nil_of_length_eq_zero hn.symm
    subst this
    refine (AnyF.slices_SortFunc_none Tryz.sortF none 0 _ w).mono ?_
    rintro e w' ⟨rfl, rfl⟩
    exact ⟨rfl, ⟨[], List.Perm.refl _, List.Pairwise.nil, h⟩, Below.refl _ _⟩
  · obtain ⟨rfl, _, _⟩ := Value.slice.inj hv
    refine (sortB_any g n cap B ys hn hA hl w h).mono ?_
    rintro e w' ⟨rfl, h1, hg⟩
    exact ⟨rfl, h1, Below.grown (Below.refl B w) hg hB (fun j hj => by cases hj; exact hb)⟩

set_option maxHeartbeats 1000000 in
theorem sortedB (gf : Nat) (lb : Array Value) (eg : ∀ args w, (callFunc gf args).run Tryz.prog w = .ok (.enter gf args) w) (N : Nat) (hl : N ≤ 100000) (Fu : List Bk → Prop) (R : Nat → Prop) (B : Nat) (w : World) (hit : IterS Tryz.prog gf lb encBk (fun ys => ys.length ≤ N) Fu R w) (hR : ∀ k, R k → k < w.heap.size) (hB : B ≤ w.heap.size)
    (hA : ∀ ys, Fu ys → ∀ y ∈ ys, y.p.pk = true) :
    Calls Tryz.prog 87 #[.func (.func gf) #[] lb, .func (.func 89) #[] #[]] w fun e w' => ∃ a' n' c' ys, e = .returned (.slice a' n' c') ∧ n' = ys.length ∧ (∃ zs, Fu zs ∧ ys.Perm zs) ∧ ys.Pairwise (fun x y => ¬ cmpP y.p x.p < 0) ∧ OwnG KBk 38 w' B (.slice a' n' c') ys ∧ Below B w w' := by
  have HC := hidP (collectB gf lb eg N hl Fu R B w hit hR hB)
  clear hit hR eg
  go_enter Tryz.func87, Tryz.ntmps87
  go_wp2_with fail
  refine HC.out.mono ?_
  rintro e w2 ⟨a', n', c', ys, rfl, hn, hF, hN, ho, hb⟩
  have HS := hidP (sortAny a' n' c' B ys hn (hA ys hF) (by omega) w2 ho (Nat.le_trans hB hb.size))
  have HF := hidP (And.intro hn (And.intro hF hb))
  clear HC hn hF ho hb hA
  go_wp2_with fail
  refine HS.out.mono ?_
  rintro e w3 ⟨rfl, ⟨R', hp, hs, ho⟩, hb⟩
  have H3 := hidP (And.intro hp (And.intro hs (And.intro ho hb)))
  clear HS hp hs ho hb
  go_wp2_with fail
  go_ret
  exact ⟨a', n', c', rfl, R', HF.out.1.trans H3.out.1.length_eq.symm, ⟨ys, HF.out.2.1, H3.out.1⟩, H3.out.2.1, H3.out.2.2.1, HF.out.2.2.trans H3.out.2.2.2⟩

set_option maxHeartbeats 1000000 in
theorem values_any (b : Nat) (w : World) :
    Calls Tryz.prog 88 #[.map (some b)] w fun e w' => e = .returned (.func (.func 124) #[] #[.pointer (some ⟨w.heap.size, 0, none⟩)]) ∧ w' = w.alloc (.cells #[.map (some b)] 80) := by
  go_enter Tryz.func88, Tryz.ntmps88
  go_wp2_with fail
  go_ret
  exact ⟨rfl, rfl⟩

set_option maxRecDepth 10000 in
set_option maxHeartbeats 1000000 in
theorem rising_any (b nn : Nat) (D : DataW Unit) (bs : List Bk) (hH : HasB D bs) (hd : bs.Pairwise (fun q r => q.p ≠ r.p)) (hA : ∀ y ∈ bs, y.p.pk = true) (hl : nn ≤ 100000) (w : World) (hown : w.ownsMap Tryz.prog 31 rdB b nn D) :
    Calls Tryz.prog 39 #[.map (some b)] w fun e w' => ∃ a' n' c' ys, e = .returned (.slice a' n' c') ∧ n' = ys.length ∧ ys.Perm bs ∧ ys.Pairwise (fun x y => ¬ cmpP y.p x.p < 0) ∧ OwnG KBk 38 w' w.heap.size (.slice a' n' c') ys ∧ Below w.heap.size w w' := by
  have hbl := hown.lt
  have hown1 := hown.alloc (.cells #[.map (some b)] 80)
  have hm1 : (w.alloc (.cells #[.map (some b)] 80)).cell? ⟨w.heap.size, 0, none⟩ = some (.map (some b)) := by unfold World.cell?; rw [World.alloc_heap_new]; rfl
  have hit := values_iter w.heap.size b nn D bs hH hd (w.alloc (.cells #[.map (some b)] 80)) hm1 hown1
  have HS := hidP (sortedB 124 #[.pointer (some ⟨w.heap.size, 0, none⟩)] (enters_of Tryz.func124 (by kernel_rfl) rfl) (Maps.size D) (Nat.le_trans hown.size_le hl) (fun ys => ys.Perm bs) _ w.heap.size _ hit (fun k h => by simp; rcases h with h | h <;> omega) (by simp) (fun ys hp y hy => hA y (hp.mem_iff.1 hy)))
  have HV := hidP (values_any b w)
  have HB := hidP ((Below.refl w.heap.size w).alloc (Nat.le_refl _) (.cells #[.map (some b)] 80))
  clear hown hown1 hm1 hit hH hd hA hbl
  go_enter Tryz.func39, Tryz.ntmps39
  go_wp2_with fail
  refine HV.out.mono ?_
  rintro e w2 ⟨rfl, rfl⟩
  clear HV
  generalize w.alloc (.cells #[.map (some b)] 80) = W1 at *
  go_wp2_with fail
  refine HS.out.mono ?_
  rintro e w3 ⟨a', n', c', ys, rfl, hn, ⟨zs, hz, hp⟩, hs, ho, hb⟩
  have H3 := hidP (And.intro hn (And.intro (hp.trans hz) (And.intro hs (And.intro ho (HB.out.trans hb)))))
  clear HS hn hz hp hs ho hb
  go_wp2_with fail
  go_ret
  exact ⟨a', n', c', rfl, ys, H3.out⟩

end Go.Proofs.YtdbcdichmmcnbaaGreat

/-
  Blocks of a right plan: in strict order, and what is left of them when one goes.
-/
namespace Go.Proofs.YtdbcdichmmcnbaaGreat
open Go.RowKit Go.Maps

theorem cmp_trans {p q r : Pf} (h1 : cmpP p q < 0) (h2 : cmpP q r < 0) : cmpP p r < 0 := by
  rw [cmp_neg] at h1 h2 ⊢
  cases hx : p.s <;> cases hy : q.s <;> cases hz : r.s <;> simp [hx, hy, hz] at h1 h2 ⊢ <;> omega
theorem cmp_irr (p : Pf) : ¬ cmpP p p < 0 := by
  rw [cmp_neg]; cases hx : p.s <;> simp
theorem blocks_sorted {ps : List Pl} : ∀ (bs : List Bk) (r : Option Pf), blocksI ps r bs = true → (∀ q ∈ bs, q.p.pk = true) ∧ bs.Pairwise (fun q r => cmpP q.p r.p < 0) ∧ ∀ p, r = some p → ∀ q ∈ bs, cmpP p q.p < 0
  | [], _, _ => ⟨(fun _ h => by cases h), List.Pairwise.nil, fun _ _ _ h => by cases h⟩
  | q :: t, r, h => by
      unfold blocksI at h
      rw [Bool.and_eq_true, Bool.and_eq_true, Bool.and_eq_true] at h
      obtain ⟨⟨⟨_, h1⟩, h2⟩, h3⟩ := h
      obtain ⟨d1, d2, d3⟩ := blocks_sorted t (some q.p) h3
      have d3' := d3 q.p rfl
      refine ⟨fun x hx => ?_, List.pairwise_cons.2 ⟨fun x hx => d3' x hx, d2⟩, fun p e x hx => ?_⟩
      · rcases List.mem_cons.1 hx with rfl | hx
        · exact carB_pk h1
        · exact d1 x hx
      · subst e
        have h2' : folB p q.p = true := h2
        unfold folB at h2'
        rw [Bool.and_eq_true, decide_eq_true_eq] at h2'
        rcases List.mem_cons.1 hx with rfl | hx
        · exact h2'.1
        · exact cmp_trans h2'.1 (d3' x hx)
theorem plan_bs {ps : List Pl} {bs : List Bk} (h : planB ps bs = true) : (ps.length ≤ 20 ∧ bs.length ≤ 60) ∧ (∀ q ∈ bs, q.p.pk = true) ∧ bs.Pairwise (fun q r => cmpP q.p r.p < 0) := by
  unfold planB at h
  rw [Bool.and_eq_true, Bool.and_eq_true, Bool.and_eq_true, decide_eq_true_eq, decide_eq_true_eq] at h
  obtain ⟨h0, _, h1⟩ := h
  have h2 := blocks_sorted bs none h1
  exact ⟨h0, h2.1, h2.2.1⟩
theorem apart_of {bs : List Bk} (h : bs.Pairwise (fun q r => cmpP q.p r.p < 0)) : bs.Pairwise (fun q r => q.p ≠ r.p) := h.imp fun {a b} hc (e : a.p = b.p) => cmp_irr b.p (by rw [e] at hc; exact hc)
theorem bit_of {p : Pf} (h : p.pk = true) : bitW p := by
  obtain ⟨h1, h2, _⟩ := pk_parts h
  have h3 : wd p.s ≤ 128 := by unfold wd; split <;> omega
  have m1 : IntKind.i64.min = -9223372036854775808 := by decide
  have m2 : IntKind.i64.max = 9223372036854775807 := by decide
  unfold bitW
  simp [Lit.wf, m1, m2]
  omega
theorem sorted_one : ∀ (S R : List Bk), R.Perm S → S.Pairwise (fun q r => cmpP q.p r.p < 0) → R.Pairwise (fun x y => ¬ cmpP y.p x.p < 0) → R = S
  | [], R, hp, _, _ => hp.eq_nil
  | s :: S, [], hp, _, _ => by have := hp.length_eq; simp at this
  | s :: S, r :: R, hp, hS, hR => by
      have e : r = s := by
        rcases List.mem_cons.1 (hp.mem_iff.1 (List.mem_cons_self (a := r) (l := R))) with h | h
        · exact h
        · rcases List.mem_cons.1 (hp.mem_iff.2 (List.mem_cons_self (a := s) (l := S))) with h' | h'
          · exact h'.symm
          · exact absurd ((List.pairwise_cons.1 hS).1 r h) ((List.pairwise_cons.1 hR).1 s h')
      subst e
      rw [sorted_one S R ((List.perm_cons r).1 hp) (List.pairwise_cons.1 hS).2 (List.pairwise_cons.1 hR).2]

end Go.Proofs.YtdbcdichmmcnbaaGreat

/-
  What is left of a span once one more part is taken that was free: one place less of its size, and the first is farther on.
-/
namespace Go.Proofs.YtdbcdichmmcnbaaGreat
open Go.RowKit

theorem cHH (n m : Nat) (h : n ≤ m) (H : BitVec 64) : cH m (cH n H) = cH m H := by
  apply BitVec.eq_of_getLsbD_eq
  intro i hi
  simp only [cH, BitVec.getLsbD_and, BitVec.getLsbD_not, mh_bit, hi, decide_true, Bool.true_and]
  by_cases a : i + 64 < n <;> by_cases b : i + 64 < m <;> simp [a, b] <;> omega
theorem cLL (n m : Nat) (h : n ≤ m) (L : BitVec 64) : cL m (cL n L) = cL m L := by
  apply BitVec.eq_of_getLsbD_eq
  intro i hi
  simp only [cL, BitVec.getLsbD_and, BitVec.getLsbD_not, ml_bit, hi, decide_true, Bool.true_and]
  by_cases a : i < n <;> by_cases b : i < m <;> simp [a, b] <;> omega
theorem cHd (n m : Nat) (h : n ≤ m) (H : BitVec 64) : cH n (cH m H) = cH m H := by
  apply BitVec.eq_of_getLsbD_eq
  intro i hi
  simp only [cH, BitVec.getLsbD_and, BitVec.getLsbD_not, mh_bit, hi, decide_true, Bool.true_and]
  by_cases a : i + 64 < n <;> by_cases b : i + 64 < m <;> simp [a, b] <;> omega
theorem cLd (n m : Nat) (h : n ≤ m) (L : BitVec 64) : cL n (cL m L) = cL m L := by
  apply BitVec.eq_of_getLsbD_eq
  intro i hi
  simp only [cL, BitVec.getLsbD_and, BitVec.getLsbD_not, ml_bit, hi, decide_true, Bool.true_and]
  by_cases a : i < n <;> by_cases b : i < m <;> simp [a, b] <;> omega
theorem wB_trans {a b c : Sp} (h1 : wB a b = true) (h2 : wB b c = true) : wB a c = true := by
  obtain ⟨n1, s1, e1, f1⟩ := (wB_iff _ _).1 h1
  obtain ⟨n2, s2, e2, f2⟩ := (wB_iff _ _).1 h2
  exact (wB_iff _ _).2 ⟨by omega, s1.trans s2, by rw [← e2, ← e1, cHH _ _ n2], by rw [← f2, ← f1, cLL _ _ n2]⟩
theorem wB_nest {z t x : Sp} (h1 : wB z t = true) (h2 : wB z x = true) : wB t x = true ∨ wB x t = true := by
  obtain ⟨n1, s1, e1, f1⟩ := (wB_iff _ _).1 h1
  obtain ⟨n2, s2, e2, f2⟩ := (wB_iff _ _).1 h2
  rcases Nat.le_total t.n x.n with h | h
  · left
    exact (wB_iff _ _).2 ⟨h, s1.symm.trans s2, by rw [← e1, cHH _ _ h, e2], by rw [← f1, cLL _ _ h, f2]⟩
  · right
    exact (wB_iff _ _).2 ⟨h, s2.symm.trans s1, by rw [← e2, cHH _ _ h, e1], by rw [← f2, cLL _ _ h, f1]⟩
theorem wB_self {x : Sp} (hx : x.ok) : wB x x = true := (wB_iff _ _).2 ⟨Nat.le_refl _, rfl, hx.2.2.1, hx.2.2.2⟩
/-- The first part of a span with so many free bits. -/
def subN (z : Sp) (s : Nat) : Sp := ⟨z.s, z.H, z.L, s⟩
theorem subN_ok {z : Sp} (hz : z.ok) {s : Nat} (hs : s ≤ z.n) : (subN z s).ok :=
  ⟨hz.1, Nat.le_trans hs hz.2.1, by show cH s z.H = z.H; rw [← hz.2.2.1, cHd _ _ hs], by show cL s z.L = z.L; rw [← hz.2.2.2, cLd _ _ hs]⟩
theorem subN_in {z : Sp} (hz : z.ok) {s : Nat} (hs : s ≤ z.n) : wB (subN z s) z = true := (wB_iff _ _).2 ⟨hs, rfl, hz.2.2.1, hz.2.2.2⟩
theorem wB_num {t x : Sp} (hx : x.ok) : wB t x = true ↔ t.n ≤ x.n ∧ t.s = x.s ∧ x.adr ≤ t.adr ∧ t.adr < x.adr + 2 ^ x.n := by
  have h := one_in (t := subN t 0) (x := x) rfl hx
  have e : wB t x = true ↔ t.n ≤ x.n ∧ wB (subN t 0) x = true := by
    rw [wB_iff, wB_iff]
    constructor
    · rintro ⟨a, b, c, d⟩; exact ⟨a, Nat.zero_le _, b, c, d⟩
    · rintro ⟨a, _, b, c, d⟩; exact ⟨a, b, c, d⟩
  rw [e, h]
  exact Iff.rfl
theorem upp_num {x : Sp} {k : Nat} (hx : x.ok) (hn : x.n = k + 1) : (uppS x k).adr = x.adr + 2 ^ k := upp_adr k (by have := hx.le; omega) x.H x.L (by rw [← hn]; exact hx.2.2.1) (by rw [← hn]; exact hx.2.2.2)
/-- Free of a list: none lies in it, and it lies in none. -/
def Fr (p : Sp) (l : List Sp) : Prop := ∀ t ∈ l, wB p t = false ∧ wB t p = false
theorem Fr.filter {p : Sp} {l : List Sp} (h : Fr p l) (f : Sp → Bool) : Fr p (l.filter f) := fun t ht => h t (List.mem_filter.1 ht).1
/-- Each part that is left is right, lies in the span, and touches nothing that is taken. -/
theorem left_part : ∀ (k : Nat) (x : Sp) (l : List Sp), x.ok → x.n = k → ∀ z ∈ leftM k x l, z.ok ∧ wB z x = true ∧ Fr z l := by
  intro k
  induction k with
  | zero =>
    intro x l hx hn z hz
    unfold leftM at hz
    split at hz
    · cases hz
    · rename_i ha
      have : z = x := by simpa using hz
      subst this
      refine ⟨hx, wB_self hx, fun t ht => ⟨?_, ?_⟩⟩
      · rw [Bool.eq_false_iff]; intro h; exact ha (List.any_eq_true.2 ⟨t, ht, h⟩)
      · rw [Bool.eq_false_iff]; intro h
        exact ha (near_zero hn (l := l) (fun hf => by
          have h5 : t ∈ l.filter (fun t => wB t z) := List.mem_filter.2 ⟨ht, h⟩
          rw [hf] at h5; cases h5))
  | succ k ih =>
    intro x l hx hn z hz
    unfold leftM at hz
    split at hz
    · cases hz
    · rename_i ha
      split at hz
      · rename_i hf
        have : z = x := by simpa using hz
        subst this
        refine ⟨hx, wB_self hx, fun t ht => ⟨?_, ?_⟩⟩
        · rw [Bool.eq_false_iff]; intro h; exact ha (List.any_eq_true.2 ⟨t, ht, h⟩)
        · rw [Bool.eq_false_iff]; intro h
          have h5 : t ∈ l.filter (fun t => wB t z) := List.mem_filter.2 ⟨ht, h⟩
          rw [hf] at h5; cases h5
      · have hl := low_ok hx hn
        have hu := upp_ok hx hn
        have inx : wB (lowS x k) x = true ∧ wB (uppS x k) x = true := by
          have hp : 0 < 2 ^ k := Nat.pow_pos (by omega)
          have hpow : (2 : Nat) ^ (k + 1) = 2 ^ k + 2 ^ k := by rw [Nat.pow_succ]; omega
          have eu := upp_num hx hn
          have el : (lowS x k).adr = x.adr := rfl
          exact ⟨(wB_num hx).2 ⟨by show k ≤ x.n; omega, rfl, by omega, by rw [hn, hpow, el]; omega⟩, (wB_num hx).2 ⟨by show k ≤ x.n; omega, rfl, by omega, by rw [hn, hpow, eu]; omega⟩⟩
        have fin : ∀ y : Sp, z.ok → wB z y = true → wB y x = true → Fr z (l.filter fun t => wB t x) → z.ok ∧ wB z x = true ∧ Fr z l := fun y hzo hzy hyx hfr => by
          have hzx := wB_trans hzy hyx
          refine ⟨hzo, hzx, fun t ht => ?_⟩
          cases htx : wB t x
          · refine ⟨?_, ?_⟩
            · rw [Bool.eq_false_iff]; intro h
              rcases wB_nest h hzx with h1 | h1
              · rw [htx] at h1; cases h1
              · exact ha (List.any_eq_true.2 ⟨t, ht, h1⟩)
            · rw [Bool.eq_false_iff]; intro h
              rw [wB_trans h hzx] at htx; cases htx
          · exact hfr t (List.mem_filter.2 ⟨ht, htx⟩)
        rcases List.mem_append.1 hz with h | h
        · obtain ⟨a, b, c⟩ := ih (lowS x k) _ hl rfl z h
          exact fin _ a b inx.1 c
        · obtain ⟨a, b, c⟩ := ih (uppS x k) _ hu rfl z h
          exact fin _ a b inx.2 c
def rmB (s : Nat) (z : Sp) : Bool := decide (s ≤ z.n)

end Go.Proofs.YtdbcdichmmcnbaaGreat

/-
  The program's prefix, last and above of a span, each by its plain twin; nothing old in memory turns.
-/
namespace Go.Proofs.YtdbcdichmmcnbaaGreat
open Go.RowKit

theorem wd_le (s : Bool) : wd s ≤ 128 := by cases s <;> decide

set_option maxHeartbeats 1000000 in
theorem prefix_any (s : Bool) (H L : BitVec 64) (n : Nat) (hn : n ≤ 128) (w : World) :
    Calls Tryz.prog 160 #[.agg #[.bool s, .int .i64 H.toInt, .int .i64 L.toInt, .int .i64 n]] w fun e w' => e = .returned (.agg #[.bool s, .int .i64 H.toInt, .int .i64 L.toInt, .int .i64 ((wd s : Int) - n)]) ∧ Below w.heap.size w w' := by
  have hw := wd_le s
  have hwr : IntKind.i64.wrap ((wd s : Int) - n) = (wd s : Int) - n := by rw [← w64]; unfold wrap64; omega
  go_enter Tryz.func160, Tryz.ntmps160
  go_wp2_with fail
  go_region_with ((go_at_call 103; refine (width_any s H.toInt L.toInt _).mono ?_; rintro e w1 ⟨rfl, hb1⟩; have hz1 := hb1.size; (try simp at hz1); (first | (refine ltk (w.heap.size) (w1.heap.size) ?_ ?_; (focus omega); intro f10) | skip); (first | (refine ltk (w.heap.size + 1) (w1.heap.size) ?_ ?_; (focus omega); intro f11) | skip); (refine olds_k (w.heap.size + 2) hb1 ?_ ?_; (focus (first | omega | (simp; omega) | (simp; done))); intro hc1 hf1)))
  all_goals
    go_wp2_with fail
    refine bodyPost_ret (v := .agg #[.bool s, .int .i64 H.toInt, .int .i64 L.toInt, .int .i64 ((wd s : Int) - n)]) (by simp [results, Tryz.results160, go_sem, hc1]) rfl ⟨rfl, ?_⟩
    repeat (first | with_reducible exact Below.refl _ _ | (with_reducible refine Below.drew ?_) | (with_reducible refine Below.alloc ?_ ?_ _; rotate_left; (focus (first | omega | (simp; omega) | (simp; done)))) | (with_reducible refine Below.setCell ?_ ?_ _; rotate_left; (focus (first | omega | (simp; omega) | (simp; done)))) | (with_reducible refine Below.trans ?_ (hb1.mono ?_); rotate_left; (focus (first | omega | (simp; omega) | (simp; done)))))

end Go.Proofs.YtdbcdichmmcnbaaGreat

/-
  The program's prefixesOf: the prefixes of spans, in a row of the call's own; nothing old in memory turns.
-/
namespace Go.Proofs.YtdbcdichmmcnbaaGreat
open Go.RowKit

theorem Row.spn {w : World} {a : Option Addr} {xs : List Sp} (h : Row w a (xs.map Sp.spn)) (k : Nat) (hk : k < xs.length) : ∃ p o x, a = some ⟨p, o, none⟩ ∧ p < w.heap.size ∧ xs[k]? = some x ∧
    w.cell? ⟨p, o + k * 4, none⟩ = some (.bool x.s) ∧ w.cell? ⟨p, o + k * 4 + 1, none⟩ = some (.int .i64 x.H.toInt) ∧ w.cell? ⟨p, o + k * 4 + 2, none⟩ = some (.int .i64 x.L.toInt) ∧ w.cell? ⟨p, o + k * 4 + 3, none⟩ = some (.int .i64 (x.n : Int)) := by
  obtain ⟨p, o, q, ha, hp, hq, c0, c1, c2, c3⟩ := h k (by rw [List.length_map]; exact hk)
  rw [List.getElem?_map, List.getElem?_eq_getElem hk] at hq
  cases hq
  exact ⟨p, o, xs[k], ha, hp, List.getElem?_eq_getElem hk, c0, c1, c2, c3⟩
theorem Row.pre {w : World} {a : Option Addr} {xs : List Sp} (h : Row w a (xs.map Sp.pre)) (k : Nat) (hk : k < xs.length) : ∃ p o x, a = some ⟨p, o, none⟩ ∧ p < w.heap.size ∧ xs[k]? = some x ∧
    w.cell? ⟨p, o + k * 4, none⟩ = some (.bool x.s) ∧ w.cell? ⟨p, o + k * 4 + 1, none⟩ = some (.int .i64 x.H.toInt) ∧ w.cell? ⟨p, o + k * 4 + 2, none⟩ = some (.int .i64 x.L.toInt) ∧ w.cell? ⟨p, o + k * 4 + 3, none⟩ = some (.int .i64 ((wd x.s : Int) - (x.n : Int))) := by
  obtain ⟨p, o, q, ha, hp, hq, c0, c1, c2, c3⟩ := h k (by rw [List.length_map]; exact hk)
  rw [List.getElem?_map, List.getElem?_eq_getElem hk] at hq
  cases hq
  exact ⟨p, o, xs[k], ha, hp, List.getElem?_eq_getElem hk, c0, c1, c2, c3⟩

set_option maxHeartbeats 1000000 in
theorem l2Right_any (a : Option Addr) (cap : Nat) (ps : List Pf) (w : World) (hB : Row w a ps) (hl : ps.length ≤ 1048576) :
    Calls Tryz.prog 126 #[.slice a ps.length cap] w fun e w' => e = .returned (.bool (ps.all (fun p => pokB p.s p.H p.L p.b) && decide (ps.length ≤ 300))) ∧ Below w.heap.size w w' := by
  have HB := hidP hB
  clear hB
  obtain ⟨n, hn⟩ : ∃ n, n = ps.length := ⟨_, rfl⟩
  rw [← hn] at hl ⊢
  have HN := hidP hn
  clear hn
  go_enter Tryz.func126, Tryz.ntmps126
  go_wp2
  go_loopw [3] (fun t3 wr => ∃ k : Nat, k ≤ n ∧ t3 = .int .i64 k ∧ (ps.take k).all (fun p => pokB p.s p.H p.L p.b) = true ∧ Below w.heap.size w wr) (fun t3 _ => n - (intOf t3).toNat)
  case atStart => exact ⟨0, Nat.zero_le _, rfl, by simp, Below.refl _ _⟩
  case round =>
    obtain ⟨k, hk, rfl, hall, hbel⟩ := hrel
    have HW := hidP hbel
    have HAll := hidP hall
    by_cases hlt : k < n
    · obtain ⟨p, o, q, rfl, hp, hq, c0, c1, c2, c3⟩ := HB.out k (by rw [← HN.out]; exact hlt)
      have d0 := (hbel.cell hp).trans c0
      have d1 := (hbel.cell hp).trans c1
      have d2 := (hbel.cell hp).trans c2
      have d3 := (hbel.cell hp).trans c3
      have HQ := hidP hq
      clear c0 c1 c2 c3 hq hall hbel
      cases hpk : pokB q.s q.H q.L q.b
      · have HNo : Hid (ps.all (fun p => pokB p.s p.H p.L p.b) = false) := by
          refine hidP ?_
          rw [List.all_eq_false]
          exact ⟨q, List.mem_of_getElem? HQ.out, by rw [hpk]; simp⟩
        go_wp2_with fail
        refine (sPrefixOk_any q.s q.H q.L q.b _).mono ?_
        rw [hpk]
        rintro e w2 ⟨rfl, hb2⟩
        go_wp2_with fail
        go_ret
        rw [HNo.out]
        exact ⟨rfl, HW.out.trans (hb2.mono HW.out.size)⟩
      · have HAll2 : Hid ((ps.take (k + 1)).all (fun p => pokB p.s p.H p.L p.b) = true) := by
          refine hidP ?_
          rw [List.take_add_one, HQ.out, List.all_append, HAll.out]
          simp [hpk]
        go_wp2_with fail
        refine (sPrefixOk_any q.s q.H q.L q.b _).mono ?_
        rw [hpk]
        rintro e w2 ⟨rfl, hb2⟩
        have HW2 := hidP (HW.out.trans (hb2.mono HW.out.size))
        clear hb2
        go_wp2_with fail
        go_roundw
        case rel => exact ⟨k + 1, by omega, by go_num, HAll2.out, HW2.out⟩
        case measure => simp [intOf]; omega
    · have hkn : k = n := by omega
      subst hkn
      have HE : Hid (ps.all (fun p => pokB p.s p.H p.L p.b) = true) := by
        refine hidP ?_
        rw [HN.out, List.take_length] at hall; exact hall
      clear hbel hall
      go_wp2
      go_ret
      rw [HE.out]
      exact ⟨by go_num, HW.out⟩

end Go.Proofs.YtdbcdichmmcnbaaGreat
