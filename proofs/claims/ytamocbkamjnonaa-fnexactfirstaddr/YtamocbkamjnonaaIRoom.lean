/-
  The program's FirstFree: the first that partsFor hands out, or none.
-/
import Derived.Test.YtamocbkamjnonaaPPart
namespace Go.Proofs.Ytamocbkamjnonaa
open Go.RowKit

attribute [local go_sem] Oper.semAt_some

theorem lt_heap {A : World} {k : Nat} {o : Obj} (h : A.heap[k]? = some o) : k < A.heap.size := (Array.getElem?_eq_some_iff.1 h).1
theorem Kpt.at {M : Nat → Prop} {A B : World} {k : Nat} {o : Obj} (hk : Kpt M A B) (hm : M k) (h : A.heap[k]? = some o) : B.heap[k]? = some o := (hk.block k (lt_heap h) hm).trans h
theorem kpt_set {M : Nat → Prop} (V : World) (p : Addr) (u : Value) (hm : M p.block) : Kpt (fun k => ¬ M k) V (V.setCell p u) :=
  ⟨rfl, rfl, rfl, by simp [World.setCell], fun k _ hk => Below.heap_setCell V p u k fun e => hk (e ▸ hm)⟩
theorem Grw.set {M M' : Nat → Prop} {A V : World} (h : Grw M M' A V) (p : Addr) (u : Value) (hm : M' p.block) : Grw M M' A (V.setCell p u) :=
  h.trans ⟨kpt_set V p u hm, fun _ h _ => h, fun k hk => by rw [show (V.setCell p u).heap.size = V.heap.size by simp [World.setCell]]; exact h.fit k hk⟩
theorem set1 {V : World} {k : Nat} {v u : Value} {t : TypeId} (h : V.heap[k]? = some (.cells #[v] t)) : (V.setCell ⟨k, 0, none⟩ u).heap[k]? = some (.cells #[u] t) := by
  simp [World.setCell, Array.getElem?_modify, h]
theorem set4 {V : World} {k : Nat} {a b c d a' b' c' d' : Value} {t : TypeId} (h : V.heap[k]? = some (.cells #[a, b, c, d] t)) : ((((V.setCell ⟨k, 0, none⟩ a').setCell ⟨k, 1, none⟩ b').setCell ⟨k, 2, none⟩ c').setCell ⟨k, 3, none⟩ d').heap[k]? = some (.cells #[a', b', c', d'] t) := by
  simp [World.setCell, Array.getElem?_modify, h]
theorem setO {V : World} {k : Nat} {p : Addr} {u : Value} {o : Obj} (hne : k ≠ p.block) (h : V.heap[k]? = some o) : (V.setCell p u).heap[k]? = some o := (Below.heap_setCell V p u k hne).trans h
theorem of1 {V : World} {k : Nat} {v : Value} {t : TypeId} (h : V.heap[k]? = some (.cells #[v] t)) : V.cell? ⟨k, 0, none⟩ = some v ∧ V.frozen? ⟨k, 0, none⟩ = false := by
  constructor <;> simp [World.cell?, World.frozen?, h]
theorem of4 {V : World} {k : Nat} {a b c d : Value} {t : TypeId} (h : V.heap[k]? = some (.cells #[a, b, c, d] t)) : (V.cell? ⟨k, 0, none⟩ = some a ∧ V.cell? ⟨k, 1, none⟩ = some b ∧ V.cell? ⟨k, 2, none⟩ = some c ∧ V.cell? ⟨k, 3, none⟩ = some d) ∧ V.frozen? ⟨k, 0, none⟩ = false ∧ V.frozen? ⟨k, 1, none⟩ = false ∧ V.frozen? ⟨k, 2, none⟩ = false ∧ V.frozen? ⟨k, 3, none⟩ = false := by
  refine ⟨⟨?_, ?_, ?_, ?_⟩, ?_, ?_, ?_, ?_⟩ <;> simp [World.cell?, World.frozen?, h]
/-- Blocks laid one behind another. -/
def allocs (w : World) : List Obj → World
  | [] => w
  | o :: t => allocs (w.alloc o) t
theorem allocs_below : ∀ (os : List Obj) (w : World), Below w.heap.size w (allocs w os)
  | [], w => Below.refl _ w
  | o :: t, w => ((Below.refl _ w).alloc (Nat.le_refl _) o).trans ((allocs_below t (w.alloc o)).mono (by simp))
theorem allocs_size : ∀ (os : List Obj) (w : World), (allocs w os).heap.size = w.heap.size + os.length
  | [], _ => rfl
  | o :: t, w => by
      show (allocs (w.alloc o) t).heap.size = _
      rw [allocs_size t, World.size_alloc, List.length_cons]; omega
theorem allocs_at : ∀ (os : List Obj) (w : World) (i : Nat) (o : Obj), os[i]? = some o → (allocs w os).heap[w.heap.size + i]? = some o
  | [], _, _, _, h => by simp at h
  | o :: t, w, 0, o', h => by
      have e : o = o' := by simpa using h
      rw [← e]
      exact ((allocs_below t (w.alloc o)).block w.heap.size (by simp)).trans (World.alloc_heap_new w o)
  | o :: t, w, i + 1, o', h => by
      have := allocs_at t (w.alloc o) i o' (by simpa using h)
      rw [World.size_alloc] at this
      rw [show w.heap.size + (i + 1) = w.heap.size + 1 + i by omega]
      exact this
theorem bel_end {w w7 V : World} {M M' : Nat → Prop} (hb : Below w.heap.size w w7) (hg : Grw M M' w7 V) (hM : ∀ k, M k → w.heap.size ≤ k) {D : Nat} (hD : w7.heap.size ≤ D) (o : Obj) : Below w.heap.size w (V.putObj D o) := by
  have hz := hb.size
  exact ⟨hg.kept.os.trans hb.os, hg.kept.tape.trans hb.tape, hg.kept.output.trans hb.output, by have := hg.kept.size; rw [World.putObj_size]; omega, fun k hk => (World.putObj_heap_other (by omega)).trans ((hg.kept.block k (by omega) fun h => by have := hM k h; omega).trans (hb.block k hk))⟩

/-- What FirstFree answers where zs are handed out. -/
def frsV (bits : Int) : List Sp → Value
  | [] => .tuple #[.agg #[.bool false, .int .i64 0, .int .i64 0, .int .i64 0], .bool false]
  | z :: _ => .tuple #[.agg #[.bool z.s, .int .i64 z.H.toInt, .int .i64 z.L.toInt, .int .i64 bits], .bool true]
def frM (s : Nat) (k : Nat) : Prop := k = s + 1 ∨ k = s + 2 ∨ k = s + 3

set_option maxRecDepth 10000 in
set_option maxHeartbeats 2000000 in
theorem iFirst (p : Pf) (a : Option Addr) (n cap : Nat) (bits : Int) (w : World) (zs : List Sp) (hP : PartGives p a n cap bits w zs) :
    Calls Try.prog 20 #[.agg #[.bool p.s, .int .i64 p.H.toInt, .int .i64 p.L.toInt, .int .i64 p.b], .slice a n cap, .int .i64 bits] w fun e w' => e = .returned (frsV bits zs) ∧ Below w.heap.size w w' := by
  have HP := hidP hP
  clear hP
  refine (callsIn_wide (n := 9)).1 (callsIn_of_wp_marks Try.func20 rfl trivial ?_ rfl)
  simp only [Try.ntmps20, List.size_toArray, List.length_cons, List.length_nil, Nat.reduceAdd, Nat.reduceSub, Array.replicate_succ, Array.replicate_zero, List.push_toArray, List.append_toArray, List.nil_append, List.cons_append]
  gi_wp2
  refine ⟨trivial, (callsIn_wide.2 (partsFor_any p a n cap bits _)).mono ?_⟩
  rintro e w7 ⟨rfl, hw7⟩
  obtain ⟨os, hos⟩ : ∃ os : List Obj, os = [.cells #[.bool p.s, .int .i64 p.H.toInt, .int .i64 p.L.toInt, .int .i64 p.b] 37, .cells #[.int .i64 bits] 3, .cells #[.bool false, .int .i64 0, .int .i64 0, .int .i64 0] 37, .cells #[.bool false] 4, .cells #[.bool p.s, .int .i64 p.H.toInt, .int .i64 p.L.toInt, .int .i64 p.b] 37, .cells #[.slice a n cap] 24, .cells #[.int .i64 bits] 3] := ⟨_, rfl⟩
  have hw : w7 = allocs w os := by rw [hos]; exact hw7
  have hz : w7.heap.size = w.heap.size + 7 := by rw [hw, allocs_size, hos]; rfl
  have hb : Below w.heap.size w w7 := by rw [hw]; exact allocs_below os w
  have hat : ∀ i o, os[i]? = some o → w7.heap[w.heap.size + i]? = some o := by rw [hw]; exact allocs_at os w
  subst hos
  have h1 := hat 1 _ rfl
  have h2 := hat 2 _ rfl
  have h3 := hat 3 _ rfl
  have h4 := hat 4 _ rfl
  have h5 := hat 5 _ rfl
  have h6 := hat 6 _ rfl
  have HB := hidP hb
  have H1 := hidP h1
  have H2 := hidP h2
  have H3 := hidP h3
  have HIt := hidP (HP.out w7 (w.heap.size + 6) (w.heap.size + 4) (w.heap.size + 5) hb (of1 h6).1 (of4 h4).1 (of1 h5).1 (by omega) (by omega) (by omega) (by omega))
  clear hw7 hw hat hb h1 h2 h3 h4 h5 h6
  gi_wp2
  refine wp_range (gf := 71) (lb := #[.pointer (some ⟨w.heap.size + 6, 0, none⟩), .pointer (some ⟨w.heap.size + 4, 0, none⟩), .pointer (some ⟨w.heap.size + 5, 0, none⟩)]) rfl (enters_of Try.func71 (by kernel_rfl) rfl) HIt.out (fun _ => rfl) (fun k h => by omega)
    (fun pre M V => pre = [] ∧ M = frM w.heap.size ∧ V.heap[w.heap.size + 1]? = some (.cells #[.int .i64 bits] 3) ∧ V.heap[w.heap.size + 2]? = some (.cells #[.bool false, .int .i64 0, .int .i64 0, .int .i64 0] 37) ∧ V.heap[w.heap.size + 3]? = some (.cells #[.bool false] 4))
    (fun c pre M V => c = .ret ∧ M = frM w.heap.size ∧ ∃ z : Sp, pre = [z] ∧ V.heap[w.heap.size + 2]? = some (.cells #[.bool z.s, .int .i64 z.H.toInt, .int .i64 z.L.toInt, .int .i64 bits] 37) ∧ V.heap[w.heap.size + 3]? = some (.cells #[.bool true] 4))
    (fun pre M A B h hk => ?hI) (fun c pre M A B h hk => ?hX) (frM w.heap.size) (fun k h => by unfold frM at h; omega) (fun k h hm => by unfold frM at hm; omega) ⟨rfl, rfl, H1.out, H2.out, H3.out⟩ ?round ?done ?stop
  case hI =>
    obtain ⟨rfl, rfl, h1, h2, h3⟩ := h
    exact ⟨rfl, rfl, hk.at (Or.inl rfl) h1, hk.at (Or.inr (Or.inl rfl)) h2, hk.at (Or.inr (Or.inr rfl)) h3⟩
  case hX =>
    obtain ⟨rfl, rfl, z, rfl, h2, h3⟩ := h
    exact ⟨rfl, rfl, z, rfl, hk.at (Or.inr (Or.inl rfl)) h2, hk.at (Or.inr (Or.inr rfl)) h3⟩
  case stop =>
    rintro D c pre M1 V hD hDl hMD hpre ⟨rfl, rfl, z, rfl, h2, h3⟩ hg hK
    obtain ⟨t, rfl⟩ := hpre
    have k2 := (World.putObj_heap_other (w := V) (o := .deferred none) (show w.heap.size + 2 ≠ D by omega)).trans h2
    have k3 := (World.putObj_heap_other (w := V) (o := .deferred none) (show w.heap.size + 3 ≠ D by omega)).trans h3
    obtain ⟨⟨g0, g1, g2, g3⟩, _⟩ := of4 k2
    have g4 := (of1 k3).1
    have HE := hidP (bel_end HB.out hg (fun k h => by unfold frM at h; omega) hD (.deferred none))
    clear h2 h3 k2 k3 hg
    gi_wp2
    refine ⟨by simp, .inl ⟨_, _, rfl, run_takeDeferred hK, ?_⟩⟩
    exact ⟨.tuple #[.agg #[.bool z.s, .int .i64 z.H.toInt, .int .i64 z.L.toInt, .int .i64 bits], .bool true], by simp [results, Try.results20, go_sem, g0, g1, g2, g3, g4], rfl, HE.out⟩
  case done =>
    rintro D M1 V hD hDl hMD ⟨rfl, rfl, h1, h2, h3⟩ hg hK
    have G1 : Grw (frM w.heap.size) (frM w.heap.size) V (((((V.setCell ⟨w.heap.size + 2, 0, none⟩ (.bool false)).setCell ⟨w.heap.size + 2, 1, none⟩ (.int .i64 0)).setCell ⟨w.heap.size + 2, 2, none⟩ (.int .i64 0)).setCell ⟨w.heap.size + 2, 3, none⟩ (.int .i64 0)).setCell ⟨w.heap.size + 3, 0, none⟩ (.bool false)) :=
      ((((Grw.refl hg.fit).set _ _ (Or.inr (Or.inl rfl))).set _ _ (Or.inr (Or.inl rfl))).set _ _ (Or.inr (Or.inl rfl))).set _ _ (Or.inr (Or.inl rfl)) |>.set _ _ (Or.inr (Or.inr rfl))
    have HK := hidP ((G1.kept.block D hDl hMD).trans hK)
    have e2 := setO (k := w.heap.size + 2) (p := ⟨w.heap.size + 3, 0, none⟩) (u := .bool false) (show w.heap.size + 2 ≠ w.heap.size + 3 by omega) (set4 (a' := .bool false) (b' := .int .i64 0) (c' := .int .i64 0) (d' := .int .i64 0) h2)
    have e3 := set1 (u := .bool false) (setO (p := ⟨w.heap.size + 2, 3, none⟩) (u := .int .i64 0) (show w.heap.size + 3 ≠ w.heap.size + 2 by omega) (setO (p := ⟨w.heap.size + 2, 2, none⟩) (u := .int .i64 0) (show w.heap.size + 3 ≠ w.heap.size + 2 by omega) (setO (p := ⟨w.heap.size + 2, 1, none⟩) (u := .int .i64 0) (show w.heap.size + 3 ≠ w.heap.size + 2 by omega) (setO (p := ⟨w.heap.size + 2, 0, none⟩) (u := .bool false) (show w.heap.size + 3 ≠ w.heap.size + 2 by omega) h3))))
    have k2 := fun o => (World.putObj_heap_other (o := o) (show w.heap.size + 2 ≠ D by omega)).trans e2
    have k3 := fun o => (World.putObj_heap_other (o := o) (show w.heap.size + 3 ≠ D by omega)).trans e3
    obtain ⟨⟨g0, g1, g2, g3⟩, _⟩ := of4 (k2 (.deferred none))
    have g4 := (of1 (k3 (.deferred none))).1
    obtain ⟨⟨v0, v1, v2, v3⟩, f0, f1, f2, f3⟩ := of4 h2
    obtain ⟨v4, f4⟩ := of1 h3
    have lz2 := lt_heap h2
    have lz3 := lt_heap h3
    have HE := hidP (bel_end HB.out (hg.trans G1) (fun k h => by unfold frM at h; omega) hD (.deferred none))
    have HG := hidP (And.intro g0 (And.intro g1 (And.intro g2 (And.intro g3 g4))))
    clear h1 h2 h3 k2 k3 hg e2 e3 G1 g0 g1 g2 g3 g4
    gi_wp2
    refine ⟨by simp, .inl ⟨_, _, rfl, run_takeDeferred HK.out, ?_⟩⟩
    obtain ⟨g0, g1, g2, g3, g4⟩ := HG.out
    exact ⟨.tuple #[.agg #[.bool false, .int .i64 0, .int .i64 0, .int .i64 0], .bool false], by simp [results, Try.results20, go_sem, g0, g1, g2, g3, g4], rfl, HE.out⟩
  case round =>
    intro l' pre x M1 V _ hf hl' _ hlt hpre
    unfold encP
    refine rnd_of ?_
    intro K' HK'
    have HF0 := hidP hf
    clear hf hl' hpre
    gi_wp2
    refine HK'.out _ _ ⟨(Below.refl _ V).alloc (Nat.le_refl _) _, ?_⟩
    clear HK'
    rintro V2 hk2 hs2 ⟨rfl, rfl, h1, h2, h3⟩
    obtain ⟨x0, x1, x2, x3⟩ := box_cells V 37 x.pre
    have lV : V.heap.size < (V.alloc (.cells #[.bool x.s, .int .i64 x.H.toInt, .int .i64 x.L.toInt, .int .i64 ((wd x.s : Int) - x.n)] 37)).heap.size := by simp
    have nV : V.heap.size ≠ l' := by omega
    have y0 := (hk2.cell (p := ⟨V.heap.size, 0, none⟩) lV nV).trans x0
    have y1 := (hk2.cell (p := ⟨V.heap.size, 1, none⟩) lV nV).trans x1
    have y2 := (hk2.cell (p := ⟨V.heap.size, 2, none⟩) lV nV).trans x2
    have hVs : V.heap.size < V2.heap.size := by rw [hs2]; exact lV
    obtain ⟨⟨v0, v1, v2, v3⟩, f0, f1, f2, f3⟩ := of4 h2
    obtain ⟨v4, f4⟩ := of1 h3
    have v5 := (of1 h1).1
    have lz1 := lt_heap h1
    have lz2 := lt_heap h2
    have lz3 := lt_heap h3
    dsimp only [Sp.pre] at y0 y1 y2
    have fit2 : ∀ k, frM w.heap.size k → k < V2.heap.size := fun k h => by have := HF0.out k h; omega
    have HG : Hid (Grw (frM w.heap.size) (frM w.heap.size) V2 (((((V2.setCell ⟨w.heap.size + 2, 0, none⟩ (.bool x.s)).setCell ⟨w.heap.size + 2, 1, none⟩ (.int .i64 x.H.toInt)).setCell ⟨w.heap.size + 2, 2, none⟩ (.int .i64 x.L.toInt)).setCell ⟨w.heap.size + 2, 3, none⟩ (.int .i64 bits)).setCell ⟨w.heap.size + 3, 0, none⟩ (.bool true))) :=
      hidP (((((Grw.refl fit2).set _ _ (Or.inr (Or.inl rfl))).set _ _ (Or.inr (Or.inl rfl))).set _ _ (Or.inr (Or.inl rfl))).set _ _ (Or.inr (Or.inl rfl)) |>.set _ _ (Or.inr (Or.inr rfl)))
    have E2 := hidP (setO (k := w.heap.size + 2) (p := ⟨w.heap.size + 3, 0, none⟩) (u := .bool true) (show w.heap.size + 2 ≠ w.heap.size + 3 by omega) (set4 (a' := .bool x.s) (b' := .int .i64 x.H.toInt) (c' := .int .i64 x.L.toInt) (d' := .int .i64 bits) h2))
    have E3 := hidP (set1 (u := .bool true) (setO (p := ⟨w.heap.size + 2, 3, none⟩) (u := .int .i64 bits) (show w.heap.size + 3 ≠ w.heap.size + 2 by omega) (setO (p := ⟨w.heap.size + 2, 2, none⟩) (u := .int .i64 x.L.toInt) (show w.heap.size + 3 ≠ w.heap.size + 2 by omega) (setO (p := ⟨w.heap.size + 2, 1, none⟩) (u := .int .i64 x.H.toInt) (show w.heap.size + 3 ≠ w.heap.size + 2 by omega) (setO (p := ⟨w.heap.size + 2, 0, none⟩) (u := .bool x.s) (show w.heap.size + 3 ≠ w.heap.size + 2 by omega) h3)))))
    clear hk2 hs2 h1 h2 h3 x0 x1 x2 x3 lV nV fit2
    gi_wp2
    exact ⟨frM w.heap.size, ⟨rfl, rfl, x, rfl, E2.out, E3.out⟩, HG.out⟩

end Go.Proofs.Ytamocbkamjnonaa
