/-
  The program's GroupOf of a right Keep: a right group in rows of its own.
-/
import Derived.Test.YtlhddiikbfobjaaZE12
namespace Go.Proofs.Ytlhddiikbfobjaa
open Go.ChangeShapes Go.WideShapes Go.ChangeAt Go.RowKit Go.Joins Go.Deep

attribute [local go_sem] Oper.semAt_some

theorem DatR.of {w V : World} {e : En} (h : DatR w e) (hk : ∀ p o, e.a = some ⟨p, o, none⟩ → p < w.heap.size → V.heap[p]? = w.heap[p]?) (hs : w.heap.size ≤ V.heap.size) : DatR V e :=
  ⟨h.1, h.2.1, fun j hj => by
    obtain ⟨p, o, q, ha, hp, hq, c⟩ := h.2.2 j hj
    exact ⟨p, o, q, ha, Nat.lt_of_lt_of_le hp hs, hq, fun i v hv => (World.cell?_of_block (w := w) (hk p o ha hp)).trans (c i v hv)⟩⟩
theorem OwnG.kpt {α : Type} {K : Kd α} {t : TypeId} {w w' : World} {M : Nat → Prop} {B : Nat} {v : Value} {ps : List α} (h : OwnG K t w B v ps) (hk : Kpt M w w') (hm : ∀ k, v.ownBlock = some k → M k) : OwnG K t w' B v ps := by
  refine ⟨h.1, ?_⟩
  rcases h.2 with h1 | ⟨g, cap, cur, hv, hg, hr, hr'⟩
  · exact Or.inl h1
  · refine Or.inr ⟨g, cap, cur, hv, hg, (hk.block g ?_ (hm g (by rw [hv]; rfl))).trans hr, hr'⟩
    rcases Nat.lt_or_ge g w.heap.size with hlt | hge
    · exact hlt
    · rw [Array.getElem?_eq_none hge] at hr; cases hr
theorem obj_cell {w : World} {k i : Nat} {vs : Array Value} {t : TypeId} {v : Value} (h : w.heap[k]? = some (.cells vs t)) (hv : vs[i]? = some v) : w.cell? ⟨k, i, none⟩ = some v := by
  unfold World.cell?
  simp [h, hv]
theorem set2E {V : World} {k : Nat} {a b a' b' : Value} {t : TypeId} (h : V.heap[k]? = some (.cells #[a, b] t)) : ((V.setCell ⟨k, 0, none⟩ a').setCell ⟨k, 1, none⟩ b').heap[k]? = some (.cells #[a', b'] t) := by
  simp [World.setCell, Array.getElem?_modify, h]
theorem of2E {V : World} {k : Nat} {a b : Value} {t : TypeId} (h : V.heap[k]? = some (.cells #[a, b] t)) : (V.cell? ⟨k, 0, none⟩ = some a ∧ V.cell? ⟨k, 1, none⟩ = some b) ∧ V.frozen? ⟨k, 0, none⟩ = false ∧ V.frozen? ⟨k, 1, none⟩ = false := by
  refine ⟨⟨?_, ?_⟩, ?_, ?_⟩ <;> simp [World.cell?, World.frozen?, h]
theorem lt_heapE {A : World} {k : Nat} {o : Obj} (h : A.heap[k]? = some o) : k < A.heap.size := (Array.getElem?_eq_some_iff.1 h).1
theorem ris_ok : ∀ {es : List En} {l : Int} {e : En}, risE l es = true → e ∈ es → e.ok = true
  | [], _, _, _, h => by cases h
  | x :: t, l, e, hr, h => by
      have hr' : ((x.ok && decide (l ≤ x.T)) && risE x.T t) = true := hr
      rw [Bool.and_eq_true, Bool.and_eq_true] at hr'
      rcases List.mem_cons.1 h with rfl | h
      · exact hr'.1.1
      · exact ris_ok hr'.2 h
theorem kpt_setE {M : Nat → Prop} (V : World) (p : Addr) (u : Value) (hm : M p.block) : Kpt (fun k => ¬ M k) V (V.setCell p u) :=
  ⟨rfl, rfl, rfl, by simp [World.setCell], fun k _ hk => Below.heap_setCell V p u k (fun h => hk (h ▸ hm))⟩
theorem grw_setE {M M' : Nat → Prop} {A V : World} (h : Grw M M' A V) (p : Addr) (u : Value) (hm : M' p.block) : Grw M M' A (V.setCell p u) :=
  h.trans ⟨kpt_setE V p u hm, fun _ h _ => h, fun k hk => by rw [show (V.setCell p u).heap.size = V.heap.size by simp [World.setCell]]; exact h.fit k hk⟩
theorem bel_setE {w V : World} (hb : Below w.heap.size w V) (p : Addr) (u : Value) (hD : w.heap.size ≤ p.block) : Below w.heap.size w (V.setCell p u) :=
  ⟨hb.os, hb.tape, hb.output, by rw [show (V.setCell p u).heap.size = V.heap.size by simp [World.setCell]]; exact hb.size, fun q hq => (Below.heap_setCell V p u q (by omega)).trans (hb.block q hq)⟩
theorem set2O {V : World} {k x : Nat} {u u' : Value} (hne : k ≠ x) : ((V.setCell ⟨x, 0, none⟩ u).setCell ⟨x, 1, none⟩ u').heap[k]? = V.heap[k]? := (Below.heap_setCell _ ⟨x, 1, none⟩ u' k hne).trans (Below.heap_setCell V ⟨x, 0, none⟩ u k hne)
theorem own_set2 {α : Type} {K : Kd α} {t : TypeId} {w : World} {B x : Nat} {v u u' : Value} {ps : List α} (h : OwnG K t w B v ps) (hx : x < B) : OwnG K t ((w.setCell ⟨x, 0, none⟩ u).setCell ⟨x, 1, none⟩ u') B v ps :=
  h.kpt (M := fun q => q ≠ x) ⟨rfl, rfl, rfl, by simp [World.setCell], fun q _ hq => set2O hq⟩ (fun q hq e => by have := (h.lt q hq).1; omega)
/-- What the rounds own: the result's box, and what is older but the log's row. -/
def gM (s : Nat) (la : Option Addr) (k : Nat) : Prop := k = s + 1 ∨ (k < s ∧ ∀ o, la ≠ some ⟨k, o, none⟩)

theorem bel_g {w w4 V : World} {la : Option Addr} (hb : Below w.heap.size w w4) (hk : Kpt (fun q => ¬ gM w.heap.size la q) w4 V) (h2 : ∀ q, q < w.heap.size → gM w.heap.size la q → V.heap[q]? = w.heap[q]?) : Below w.heap.size w V :=
  ⟨hk.os.trans hb.os, hk.tape.trans hb.tape, hk.output.trans hb.output, Nat.le_trans hb.size hk.size, fun q hq => by
    by_cases h : gM w.heap.size la q
    · exact h2 q hq h
    · exact (hk.block q (Nat.lt_of_lt_of_le hq hb.size) h).trans (hb.block q hq)⟩
theorem bel_put {w V : World} {D : Nat} (hb : Below w.heap.size w V) (hD : w.heap.size ≤ D) (o : Obj) : Below w.heap.size w (V.putObj D o) :=
  ⟨hb.os, hb.tape, hb.output, by rw [World.putObj_size]; exact hb.size, fun q hq => (World.putObj_heap_other (by omega)).trans (hb.block q hq)⟩

set_option maxRecDepth 10000 in
set_option maxHeartbeats 4000000 in
theorem groupOf_pre (k : Kv) (ho : KvOk k) (w : World) (hr : KvR w k) (hsep : ∀ e ∈ k.es, ∀ p o, e.a = some ⟨p, o, none⟩ → ∀ o', k.la ≠ some ⟨p, o', none⟩) :
    Calls Try.prog 11 #[k.v] w fun e w' => ∃ a1 n1 c1 b1 m1 d1 ps bs, e = .returned (.agg #[.slice a1 n1 c1, .slice b1 m1 d1]) ∧ n1 = ps.length ∧ m1 = bs.length ∧ n1 ≤ 1048576 ∧ m1 ≤ 1048576 ∧ OwnG KI 3 w' w.heap.size (.slice a1 n1 c1) ps ∧ OwnG KI 3 w' w.heap.size (.slice b1 m1 d1) bs ∧ grB ps bs = true ∧ Below w.heap.size w w' := by
  have HKo := hidP (fun W h => iKeepOk_yes k ho W (hr.later h))
  have HR := hidP hr
  have HO := hidP ho
  have HS := hidP hsep
  clear ho hr hsep
  refine (callsIn_wide (n := 9)).1 (callsIn_of_wp_marks Try.func11 rfl trivial ?_ rfl)
  simp only [Try.ntmps11, List.size_toArray, List.length_cons, List.length_nil, Nat.reduceAdd, Nat.reduceSub, Array.replicate_succ, Array.replicate_zero, List.push_toArray, List.append_toArray, List.nil_append, List.cons_append]
  gi_wp2
  have b1 := alloc_below w (.cells #[.int .i64 k.T, .int .i64 k.V, .int .i64 k.B, .int .i64 k.E, .slice k.ga k.gn k.gc, .slice k.ha k.hn k.hc, .slice k.sa k.sn k.sc, .slice k.la k.ln k.lc] 29)
  have s1 : (w.alloc (.cells #[.int .i64 k.T, .int .i64 k.V, .int .i64 k.B, .int .i64 k.E, .slice k.ga k.gn k.gc, .slice k.ha k.hn k.hc, .slice k.sa k.sn k.sc, .slice k.la k.ln k.lc] 29)).heap.size = w.heap.size + 1 := by simp
  have o1 : (w.alloc (.cells #[.int .i64 k.T, .int .i64 k.V, .int .i64 k.B, .int .i64 k.E, .slice k.ga k.gn k.gc, .slice k.ha k.hn k.hc, .slice k.sa k.sn k.sc, .slice k.la k.ln k.lc] 29)).heap[w.heap.size]? = some (.cells #[.int .i64 k.T, .int .i64 k.V, .int .i64 k.B, .int .i64 k.E, .slice k.ga k.gn k.gc, .slice k.ha k.hn k.hc, .slice k.sa k.sn k.sc, .slice k.la k.ln k.lc] 29) := World.alloc_heap_new ..
  generalize w.alloc (.cells #[.int .i64 k.T, .int .i64 k.V, .int .i64 k.B, .int .i64 k.E, .slice k.ga k.gn k.gc, .slice k.ha k.hn k.hc, .slice k.sa k.sn k.sc, .slice k.la k.ln k.lc] 29) = W1 at *
  have b2 := alloc_below W1 (.cells #[.slice none 0 0, .slice none 0 0] 26)
  have s2 : (W1.alloc (.cells #[.slice none 0 0, .slice none 0 0] 26)).heap.size = w.heap.size + 2 := by simp; omega
  have o2 : (W1.alloc (.cells #[.slice none 0 0, .slice none 0 0] 26)).heap[w.heap.size + 1]? = some (.cells #[.slice none 0 0, .slice none 0 0] 26) := by rw [← s1]; exact World.alloc_heap_new ..
  generalize W1.alloc (.cells #[.slice none 0 0, .slice none 0 0] 26) = W2 at *
  have o1' := (b2.block w.heap.size (by omega)).trans o1
  have bW := b1.trans (b2.mono (by omega))
  clear b1 b2 s1 o1 W1
  refine ⟨trivial, (callsIn_wide.2 (HKo.out _ bW)).mono ?_⟩
  rintro e w3 ⟨rfl, hb3⟩
  have p1 := (hb3.block w.heap.size (by omega)).trans o1'
  have p2 := (hb3.block (w.heap.size + 1) (by omega)).trans o2
  have b3 := bW.trans (hb3.mono (by omega))
  have s3 : w.heap.size + 2 ≤ w3.heap.size := by have := hb3.size; omega
  have c7 := obj_cell (i := 7) p1 rfl
  have HP := hidP (And.intro p1 (And.intro p2 b3))
  clear o1' o2 bW hb3 s2 W2 p1 p2 b3
  gi_wp2
  refine ⟨trivial, (callsIn_wide.2 (back_any k.la k.ln k.lc _)).mono ?_⟩
  rintro e w4 ⟨rfl, hw4⟩
  have b4 : Below w3.heap.size w3 w4 := by rw [hw4]; exact alloc_below ..
  have q4 : w4.cell? ⟨w3.heap.size, 0, none⟩ = some (.slice k.la k.ln k.lc) := by rw [hw4]; simp [go_sem]
  have s4 : w4.heap.size = w3.heap.size + 1 := by rw [hw4]; simp
  have b5 : Below w.heap.size w w4 := HP.out.2.2.trans (b4.mono (by omega))
  have r1 := (b4.block w.heap.size (by omega)).trans HP.out.1
  have r2 := (b4.block (w.heap.size + 1) (by omega)).trans HP.out.2.1
  have HIt := hidP (back_iter w3.heap.size k.la k.ln k.lc k.es w4 HR.out.hl (by rw [HR.out.hl]; exact HO.out.lg) q4 (HR.out.rl.later b5))
  have hlog : 0 < k.es.length → ∀ p o, k.la = some ⟨p, o, none⟩ → p < w.heap.size := fun h0 p o ha => by
    obtain ⟨p', o', q, ha', hp', _⟩ := HR.out.rl 0 h0
    rw [ha] at ha'
    simp only [Option.some.injEq, Addr.mk.injEq, and_true] at ha'
    omega
  have HL := hidP hlog
  have HB5 := hidP b5
  have R1 := hidP r1
  have R2 := hidP r2
  clear hw4 b4 q4 b5 r1 r2 hlog c7 HP
  gi_wp2
  refine wp_range (gf := 67) (lb := #[.pointer (some ⟨w3.heap.size, 0, none⟩)]) rfl (enters_of Try.func67 (by kernel_rfl) rfl) HIt.out (fun _ => rfl) (fun q h => ?hRl)
    (fun pre M V => M = gM w.heap.size k.la ∧ V.heap[w.heap.size + 1]? = some (.cells #[.slice none 0 0, .slice none 0 0] 26) ∧ (∀ q, q < w.heap.size → gM w.heap.size k.la q → V.heap[q]? = w.heap[q]?))
    (fun c pre M V => c = .ret ∧ (∀ q, gM w.heap.size k.la q → M q) ∧ (∀ q, q < w.heap.size → gM w.heap.size k.la q → V.heap[q]? = w.heap[q]?) ∧ ∃ a1 n1 c1 b1 m1 d1 ps bs, V.heap[w.heap.size + 1]? = some (.cells #[.slice a1 n1 c1, .slice b1 m1 d1] 26) ∧ n1 = ps.length ∧ m1 = bs.length ∧ n1 ≤ 8 ∧ m1 ≤ 8 ∧ OwnG KI 3 V w.heap.size (.slice a1 n1 c1) ps ∧ OwnG KI 3 V w.heap.size (.slice b1 m1 d1) bs ∧ grB ps bs = true ∧ (∀ q, (Value.slice a1 n1 c1).ownBlock = some q → M q) ∧ (∀ q, (Value.slice b1 m1 d1).ownBlock = some q → M q))
    (fun pre M A B h hk => ?hI) (fun c pre M A B h hk => ?hX) (gM w.heap.size k.la) (fun q h => ?hM0) (fun q h hm => ?hRM) ⟨rfl, R2.out, fun q hq _ => HB5.out.block q hq⟩ ?round ?done ?stop
  case hRl =>
    rcases h with rfl | ⟨h0, o, ha⟩
    · omega
    · have := HL.out h0 q o ha; omega
  case hM0 => rcases h with rfl | h <;> omega
  case hRM =>
    rcases h with rfl | ⟨h0, o, ha⟩
    · rcases hm with h | h <;> omega
    · rcases hm with h | h
      · have := HL.out h0 q o ha; omega
      · exact h.2 o ha
  case hI =>
    obtain ⟨rfl, h1, h2⟩ := h
    exact ⟨rfl, (hk.block _ (lt_heapE h1) (Or.inl rfl)).trans h1, fun q hq hm => (hk.block q (by have := lt_heapE h1; omega) hm).trans (h2 q hq hm)⟩
  case hX =>
    obtain ⟨rfl, hm, h2, a1, n1, c1, b1, m1, d1, ps, bs, h1, e1, e2, l1, l2, o1, o2, hg, x1, x2⟩ := h
    exact ⟨rfl, hm, fun q hq hq' => (hk.block q (by have := lt_heapE h1; omega) (hm q hq')).trans (h2 q hq hq'), a1, n1, c1, b1, m1, d1, ps, bs, (hk.block _ (lt_heapE h1) (hm _ (Or.inl rfl))).trans h1, e1, e2, l1, l2, o1.kpt hk x1, o2.kpt hk x2, hg, x1, x2⟩
  case stop =>
    rintro D c pre M1 V hD hDl hMD hpre ⟨rfl, hm, h2, a1, n1, c1, b1, m1, d1, ps, bs, h1, e1, e2, l1, l2, o1, o2, hgr, x1, x2⟩ hg hK
    have hDr : w.heap.size + 1 ≠ D := by omega
    have k2 := (World.putObj_heap_other (w := V) (o := .deferred none) hDr).trans h1
    have g0 := obj_cell (i := 0) k2 rfl
    have g1 := obj_cell (i := 1) k2 rfl
    have hBV := bel_g HB5.out hg.kept h2
    have HE := hidP (And.intro (o1.kpt (kpt_put V D (.deferred none)) (fun q hq e => hMD (e ▸ x1 q hq))) (And.intro (o2.kpt (kpt_put V D (.deferred none)) (fun q hq e => hMD (e ▸ x2 q hq))) (bel_put (w := w) (D := D) hBV (by omega) (.deferred none))))
    clear h1 h2 k2 hg hBV o1 o2 x1 x2 hm
    gi_wp2
    refine ⟨by simp, .inl ⟨_, _, rfl, run_takeDeferred hK, ?_⟩⟩
    exact ⟨.agg #[.slice a1 n1 c1, .slice b1 m1 d1], by simp [results, Try.results11, go_sem, g0, g1], a1, n1, c1, b1, m1, d1, ps, bs, rfl, e1, e2, by omega, by omega, HE.out.1, HE.out.2.1, hgr, HE.out.2.2⟩
  case done =>
    rintro D M1 V hD hDl hMD ⟨rfl, h1, h2⟩ hg hK
    have hBV := bel_g HB5.out hg.kept h2
    have k1 := (hg.kept.block w.heap.size (by omega) (by rintro (h | h) <;> omega)).trans R1.out
    have c4 := obj_cell (i := 4) k1 rfl
    have c5 := obj_cell (i := 5) k1 rfl
    have HOw := hidP (ownGroup_any k.ga k.gn k.gc k.ha k.hn k.hc k.ps k.bs V HR.out.hg HR.out.hh (HR.out.later hBV).rg (HR.out.later hBV).rh (by have := HO.out.gs; have := HR.out.hg; omega) (by have := HO.out.gs; have := HR.out.hh; omega))
    have lR := lt_heapE h1
    have HH := hidP (And.intro h1 (And.intro hBV hK))
    clear h1 h2 hBV hg k1 hK
    gi_wp2
    refine ⟨trivial, (callsIn_wide.2 HOw.out).mono ?_⟩
    rintro e' V3 ⟨a1, c1, b1, d1, rfl, o1, o2, _, hb3⟩
    have HC := hidP (And.intro o1 (And.intro o2 hb3))
    have z3 := hb3.size
    have f1 := (hb3.block _ lR).trans HH.out.1
    obtain ⟨⟨v0, v1⟩, f0, f1'⟩ := of2E f1
    have nD : D ≠ w.heap.size + 1 := fun h => hMD (Or.inl h)
    have HF := hidP f1
    clear o1 o2 hb3 HOw f1
    gi_wp2
    refine ⟨by simp, .inl ⟨_, _, rfl, run_takeDeferred ((set2O nD).trans ((HC.out.2.2.block D hDl).trans HH.out.2.2)), ?_⟩⟩
    have k2 := (World.putObj_heap_other (o := .deferred none) (show w.heap.size + 1 ≠ D by omega)).trans (set2E (a' := .slice a1 k.gn c1) (b' := .slice b1 k.hn d1) HF.out)
    have g0 := obj_cell (i := 0) k2 rfl
    have g1 := obj_cell (i := 1) k2 rfl
    have nk : ∀ q, V.heap.size ≤ q ∧ q < V3.heap.size → q ≠ D := fun q h => by omega
    refine ⟨.agg #[.slice a1 k.gn c1, .slice b1 k.hn d1], by simp [results, Try.results11, go_sem, g0, g1], a1, k.gn, c1, b1, k.hn, d1, k.ps, k.bs, rfl, HR.out.hg, HR.out.hh, by have := HO.out.gs; have := HR.out.hg; omega, by have := HO.out.gs; have := HR.out.hh; omega, ?_, ?_, HO.out.gr, ?_⟩
    · exact (((own_set2 HC.out.1 lR).kpt (kpt_put _ D (.deferred none)) (fun q hq => nk q (HC.out.1.lt q hq))).mono (by omega))
    · exact (((own_set2 HC.out.2.1 lR).kpt (kpt_put _ D (.deferred none)) (fun q hq => nk q (HC.out.2.1.lt q hq))).mono (by omega))
    · exact bel_put (bel_setE (bel_setE (HH.out.2.1.trans (HC.out.2.2.mono (by omega))) _ _ (by show w.heap.size ≤ w.heap.size + 1; omega)) _ _ (by show w.heap.size ≤ w.heap.size + 1; omega)) (by omega) _
  case round =>
    rintro l' pre ⟨i, e⟩ M1 V hIV hf hl' hll hlt hpre
    have hmem : e ∈ k.es := bkF_mem (x := (i, e)) (hpre.subset (by simp))
    dsimp only [encE]
    refine rnd_of ?_
    intro K' HK'
    have HF0 := hidP hf
    have HMe := hidP hmem
    have HLl := hidP (And.intro hl' hll)
    clear hf hpre hIV hmem hl' hll
    gi_wp2
    refine HK'.out _ _ ⟨(Below.refl _ V).alloc (Nat.le_refl _) _, ?_⟩
    clear HK'
    rintro V2 hk2 hs2 ⟨rfl, h1, h2⟩
    obtain ⟨x0, x1, x2⟩ := box3E V 65 (.int .i64 e.T) (.int .i64 e.K) (.slice e.a e.n e.c)
    have lV : V.heap.size < (V.alloc (.cells #[.int .i64 e.T, .int .i64 e.K, .slice e.a e.n e.c] 65)).heap.size := by simp
    have nV : V.heap.size ≠ l' := by omega
    have y1 := (hk2.cell (p := ⟨V.heap.size, 1, none⟩) lV nV).trans x1
    have y2 := (hk2.cell (p := ⟨V.heap.size, 2, none⟩) lV nV).trans x2
    have hVs : V.heap.size < V2.heap.size := by rw [hs2]; exact lV
    have fit2 : ∀ q, gM w.heap.size k.la q → q < V2.heap.size := fun q h => by have := HF0.out q h; omega
    have lR := lt_heapE h1
    have hD2 : DatR V2 e := (HR.out.dt e HMe.out).of (fun p o ha hp => h2 p hp (Or.inr ⟨hp, HS.out e HMe.out p o ha⟩)) (by omega)
    by_cases h3 : e.K = 3
    · have e3 : (e.K == 3) = true := by simp [h3]
      have hg3 : gB e.zs = true := En.ok_g (ris_ok HO.out.rs HMe.out) h3
      have HGt := hidP (iGet_any e.a e.n e.c e.zs V2 hD2.1 hD2.2.1 hD2.2.2)
      rw [hg3] at HGt
      have HH := hidP (And.intro h1 h2)
      clear h1 h2 hk2 x0 x1 x2 hs2 hD2 hg3
      gi_wp2
      refine ⟨trivial, ((callsIn_wide.2 HGt.out).inRound l').mono ?_⟩
      rintro e' V3 ⟨a1, n1, c1, b1, m1, d1, ps, bs, rfl, e1, e2, l1, l2, o1, o2, hgr, hb3⟩
      have HC := hidP (And.intro e1 (And.intro e2 (And.intro l1 (And.intro l2 (And.intro o1 (And.intro o2 (And.intro (hgr trivial) hb3)))))))
      have z3 := hb3.size
      have hbW : Below V2.heap.size V2 (V3.alloc (.cells #[.slice a1 n1 c1, .slice b1 m1 d1] 26)) := hb3.trans ((alloc_below V3 _).mono z3)
      have sW : (V3.alloc (.cells #[.slice a1 n1 c1, .slice b1 m1 d1] 26)).heap.size = V3.heap.size + 1 := by simp
      have f1 := (hbW.block _ lR).trans HH.out.1
      obtain ⟨⟨v0, v1⟩, f0, f1'⟩ := of2E f1
      have HF := hidP (And.intro f1 (And.intro hbW sW))
      clear e1 e2 l1 l2 o1 o2 hgr hb3 HGt f1 hbW sW
      gi_wp2
      obtain ⟨e1, e2, l1, l2, o1, o2, hgr, hb3⟩ := HC.out
      obtain ⟨f1, hbW, sW⟩ := HF.out
      have lR' : w.heap.size + 1 < V2.heap.size := lR
      have G0 : Grw (gM w.heap.size k.la) (fun q => gM w.heap.size k.la q ∨ (V2.heap.size ≤ q ∧ q < V3.heap.size)) V2 (V3.alloc (.cells #[.slice a1 n1 c1, .slice b1 m1 d1] 26)) :=
        ⟨Kpt.ofBelow _ hbW, fun q h hl => h.elim id (fun h => by omega), fun q h => h.elim (fun h => by have := fit2 q h; omega) (fun h => by omega)⟩
      refine ⟨(fun q => gM w.heap.size k.la q ∨ (V2.heap.size ≤ q ∧ q < V3.heap.size)), ⟨rfl, fun q h => Or.inl h, fun q hq hm => (set2O (by omega)).trans ((hbW.block q (by omega)).trans (HH.out.2 q hq hm)), a1, n1, c1, b1, m1, d1, ps, bs, set2E f1, e1, e2, l1, l2, ?_, ?_, hgr, fun q h => Or.inr (o1.lt q h), fun q h => Or.inr (o2.lt q h)⟩, grw_setE (grw_setE G0 _ _ (Or.inl (Or.inl rfl))) _ _ (Or.inl (Or.inl rfl))⟩
      · exact (own_set2 (o1.alloc _) lR').mono (by omega)
      · exact (own_set2 (o2.alloc _) lR').mono (by omega)
    · have e3 : (e.K == 3) = false := by simp [h3]
      have HH := hidP (And.intro h1 h2)
      clear h1 h2 hk2 x0 x1 x2 hs2 hD2
      gi_wp2
      exact ⟨gM w.heap.size k.la, ⟨rfl, HH.out.1, HH.out.2⟩, Grw.refl fit2⟩

end Go.Proofs.Ytlhddiikbfobjaa
