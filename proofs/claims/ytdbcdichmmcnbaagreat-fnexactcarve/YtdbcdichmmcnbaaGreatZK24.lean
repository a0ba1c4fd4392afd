/-
  Ranges over functions whose values come in an order that is not known ahead: what may have come so far (Pt), and what has when all have (Fu).
-/
import Derived.Test.YtdbcdichmmcnbaaGreatZK23
import Derived.Test.YtdbcdichmmcnbaaGreatZK22
import Derived.Sort.MapsRangeIn
import Derived.Sort.KeysCollected
namespace Go.Proofs.YtdbcdichmmcnbaaGreat
open Go.RowKit

/-- The rounds of loop l: J b pre M W: pre have come; b: it goes on. -/
def RndsS {α : Type} (P : Program) (l : Nat) (encs : α → Array Value) (Pt : List α → Prop) (J : Bool → List α → (Nat → Prop) → World → Prop) : Prop :=
  ∀ m pre x M W, J true pre M W → (∀ k, M k → k < W.heap.size) → Pt (pre ++ [x]) → YieldAt Fence.wide m P l (encs x) W fun e W' => ∃ b M', e = .returned (.bool b) ∧ J b (pre ++ [x]) M' W' ∧ Grw M M' W W'
/-- How an iterator may end: all have come, or a round has said no. -/
def EndsS {α : Type} (J : Bool → List α → (Nat → Prop) → World → Prop) (Pt Fu : List α → Prop) (M : Nat → Prop) (W W' : World) (b : Bool) : Prop :=
  ∃ pre M', J b pre M' W' ∧ Grw M M' W W' ∧ (b = true → Fu pre) ∧ (b = false → Pt pre)
/-- An iterator: it reads the blocks of R. -/
def IterS {α : Type} (P : Program) (g : Nat) (lb : Array Value) (encs : α → Array Value) (Pt Fu : List α → Prop) (R : Nat → Prop) (w : World) : Prop :=
  ∀ (l : Nat) (J : Bool → List α → (Nat → Prop) → World → Prop) (M : Nat → Prop) (W : World), Kpt R w W → (∀ k, R k → ¬ M k) → (∀ k, M k → k < W.heap.size) → Abd J → RndsS P l encs Pt J → J true [] M W →
    Calls P g (#[.func (.yield l) #[] #[]] ++ lb) W fun e W' => (∃ v, e = .returned v) ∧ ∃ b, EndsS J Pt Fu M W W' b
theorem IterS.later {α : Type} {P : Program} {g : Nat} {lb : Array Value} {encs : α → Array Value} {Pt Fu : List α → Prop} {R : Nat → Prop} {w w1 : World} (h : IterS P g lb encs Pt Fu R w) (hk : Kpt R w w1) : IterS P g lb encs Pt Fu R w1 :=
  fun l J M W h1 h2 h3 h4 h5 h6 => h l J M W (hk.trans h1) h2 h3 h4 h5 h6

theorem wp_rangeS {α : Type} {n : Nat} {P : Program} {g : Operand} {ps : Array Tmp} {assign body : Code} {Q : Exit → Act → World → Prop} {a : Act} {w : World}
    {gf : Nat} {lb : Array Value} (hg : a.eval g = .func (.func gf) #[] lb) (eg : ∀ args w, (callFunc gf args).run P w = .ok (.enter gf args) w)
    {encs : α → Array Value} {Pt Fu : List α → Prop} {R : Nat → Prop} (hit : IterS P gf lb encs Pt Fu R w) (hps : ∀ x, (encs x).size = ps.size) (hR : ∀ k, R k → k < w.heap.size)
    (I : List α → (Nat → Prop) → World → Prop) (Ix : Code → List α → (Nat → Prop) → World → Prop)
    (hI : ∀ pre M A B, I pre M A → Kpt M A B → I pre M B) (hIx : ∀ c pre M A B, Ix c pre M A → Kpt M A B → Ix c pre M B)
    (M0 : Nat → Prop) (hM0 : ∀ k, M0 k → k < w.heap.size) (hRM : ∀ k, R k → ¬ M0 k) (h0 : I [] M0 w)
    (hround : ∀ l pre x M W, I pre M W → (∀ k, M k → k < W.heap.size) → ¬ M l → w.heap.size < l → l < W.heap.size → Pt (pre ++ [x]) →
      assign.wpIn (Fence.wide.inRound l) 9 P (Exit.then (fun a1 W1 => Below W.heap.size W W1 ∧ ∀ W2, Kpt (fun k => k ≠ l) W1 W2 → W2.heap.size = W1.heap.size → I pre M W2 →
        body.wpIn (Fence.wide.inRound l) 9 P (rndQ I Ix M (pre ++ [x]) W2) a1 W2) (fun _ _ _ => False)) { tmps := (ps.zip (encs x)).foldl (fun t (p, v) => t.setIfInBounds p v) a.tmps, defers := [] } W)
    (hdone : ∀ D ys M' W', w.heap.size ≤ D → D < W'.heap.size → ¬ M' D → Fu ys → I ys M' W' → Grw M0 M' w W' → W'.heap[D]? = some (.deferred (some [])) → Q .normal { a with defers := { target := .collected D, args := #[] } :: a.defers } W')
    (hstop : ∀ D c pre M' W', w.heap.size ≤ D → D < W'.heap.size → ¬ M' D → Pt pre → Ix c pre M' W' → Grw M0 M' w W' → W'.heap[D]? = some (.deferred (some [])) → c.wpIn Fence.wide n P Q { a with defers := { target := .collected D, args := #[] } :: a.defers } W') :
    (Code.rangeFunc g ps assign body).wpIn Fence.wide n P Q a w := by
  refine wpIn_rangeFunc ?_
  intro fn _
  obtain ⟨rec, hrec⟩ : ∃ rec : LoopState → Option Code → Loop, rec = fun st pe => { state := st, pending := pe, fn, tmps := a.tmps, params := ps, assign, body, defers := w.heap.size } := ⟨_, rfl⟩
  have hrr : ∀ s p s' p', { rec s p with state := s', pending := p' } = rec s' p' := by intro s p s' p'; rw [hrec]
  obtain ⟨W1, hW1⟩ : ∃ W1, (w.alloc (.deferred (some []))).alloc (.loop (rec .ready none)) = W1 := ⟨_, rfl⟩
  have hs1 : W1.heap.size = w.heap.size + 2 := by rw [← hW1]; simp
  have hl1 : W1.heap[w.heap.size + 1]? = some (.loop (rec .ready none)) := by
    rw [← hW1]; have := World.alloc_heap_new (w.alloc (.deferred (some []))) (.loop (rec .ready none)); rwa [World.size_alloc] at this
  have hD1 : W1.heap[w.heap.size]? = some (.deferred (some [])) := by
    rw [← hW1]; exact (Below.heap_alloc _ _ _ (by simp)).trans (World.alloc_heap_new w _)
  have hb1 : Below w.heap.size w W1 := by rw [← hW1]; exact ((Below.refl _ w).alloc (Nat.le_refl _) _).alloc (by simp) _
  have lt : ∀ {A : World} {k : Nat} {o : Obj}, A.heap[k]? = some o → k < A.heap.size := fun h => (Array.getElem?_eq_some_iff.1 h).1
  refine ⟨w.heap.size + 1, [{ target := .collected w.heap.size, args := #[] }], W1, { target := .fn (.func gf) lb, args := #[.func (.yield (w.heap.size + 1)) #[] #[]] }, W1, gf,
    #[.func (.yield (w.heap.size + 1)) #[] #[]] ++ lb, W1, ?_, ?_, fun _ _ => trivial, ?_, fun h => by simp [Fence.wide] at h, ?_⟩
  · rw [← hW1, hrec]; exact run_enterLoop_outer _ _ _ _ _
  · simp only [resolve, hg]
    simp [go_sem]
  · simp [invoke, go_sem, eg]
  · refine callsIn_wide.2 ?_
    refine (hit (w.heap.size + 1) (lpJ rec w.heap.size (w.heap.size + 1) I Ix) (fun k => M0 k ∨ k = w.heap.size ∨ k = w.heap.size + 1) W1 (Kpt.ofBelow _ hb1)
      (fun k hk h => h.elim (hRM k hk) fun h => by have := hR k hk; omega)
      (fun k h => h.elim (fun h => by have := hM0 k h; omega) fun h => by omega) (lp_abd hI hIx) ?_
      ⟨M0, fun _ => Iff.rfl, fun h => Nat.lt_irrefl _ (hM0 _ h), fun h => by have := hM0 _ h; omega, hD1, Or.inl ⟨rfl, hI _ _ _ _ h0 (Kpt.ofBelow _ hb1), hl1⟩⟩).mono ?_
    · rintro m pre x M W ⟨M1, hM, n1, n2, hD, ⟨_, hi, hl⟩ | ⟨hb, _⟩⟩ hfit hpre
      case inr => cases hb
      have hy := run_yield (P := P) (args := encs x) hl (by rw [hrec]; exact hps x)
      rw [hrec] at hy
      refine ⟨fn, _, assign, body, hy, roundIn_of_wpIn trivial (wide_any (wpIn_mono (hround _ pre x M1 W hi (fun k hk => hfit k ((hM k).2 (Or.inl hk))) n2 (Nat.lt_succ_self _) (lt hl) hpre) ?_))⟩
      intro e a1 V1 hV
      cases e with
      | normal =>
        obtain ⟨hb, hbody⟩ := hV
        have hl2 := (hb.block _ (lt hl)).trans hl
        have hD2 := (hb.block _ (lt hD)).trans hD
        have hbr := run_beginRound (P := P) hl2 (by rw [hrec])
        have e1 : { rec .ready none with state := .busy } = rec .busy none := by rw [hrec]
        rw [e1] at hbr
        have kp := kpt_put V1 (w.heap.size + 1) (.loop (rec .busy none))
        refine ⟨_, hbr, wide_any (wpIn_mono (hbody _ kp (by simp) (hI _ _ _ _ hi ((Kpt.ofBelow M1 hb).trans (kp.mono fun k hk h => n2 (h ▸ hk))))) ?_)⟩
        have hl3 : (V1.putObj (w.heap.size + 1) (.loop (rec .busy none))).heap[w.heap.size + 1]? = some (.loop (rec .busy none)) := World.putObj_heap_same (lt hl2)
        have hD3 : (V1.putObj (w.heap.size + 1) (.loop (rec .busy none))).heap[w.heap.size]? = some (.deferred (some [])) := (World.putObj_heap_other (by omega)).trans hD2
        have fin := fun {M' W3} (hg : Grw M1 M' (V1.putObj (w.heap.size + 1) (.loop (rec .busy none))) W3) => lp_end (P := P) (ys := pre ++ [x]) hrr hI hIx (by omega) hM n1 n2 ((Kpt.ofBelow _ hb).trans kp) hl3 hD3 hg
        rintro e a3 W3 hp
        cases e with
        | normal => obtain ⟨M', hi', hg'⟩ := hp; exact fin hg' none (Or.inl ⟨rfl, hi'⟩)
        | ret => obtain ⟨M', hi', hg'⟩ := hp; exact fin hg' (some .ret) (Or.inr ⟨_, rfl, hi'⟩)
        | exit id => obtain ⟨M', hi', hg'⟩ := hp; exact fin hg' (some (.exit id)) (Or.inr ⟨_, rfl, hi'⟩)
        | goto t => obtain ⟨M', hi', hg'⟩ := hp; exact fin hg' (some (.goto t)) (Or.inr ⟨_, rfl, hi'⟩)
        | panic ch => exact hp.elim
        | outgrown => exact hp.elim
      | exit id => exact hV.elim
      | goto t => exact hV.elim
      | ret => exact hV.elim
      | panic ch => exact hV.elim
      | outgrown => exact hV.elim
    · rintro e W2 ⟨⟨v, rfl⟩, b, pre, M, ⟨M1, hM, n1, n2, hD, h⟩, hg', ht, hf⟩
      have kp : ∀ o, Kpt M1 W2 (W2.putObj (w.heap.size + 1) o) := fun o => (kpt_put W2 _ o).mono fun k hk e => n2 (e ▸ hk)
      have hgr : ∀ o, Grw M0 M1 w (W2.putObj (w.heap.size + 1) o) := fun o =>
        ⟨⟨hg'.kept.os.trans hb1.os, hg'.kept.tape.trans hb1.tape, hg'.kept.output.trans hb1.output, by have := hg'.kept.size; simp; omega, fun k hk hn => by
            refine (World.putObj_heap_other (by omega)).trans ((hg'.kept.block k (by omega) ?_).trans (hb1.block k hk))
            rintro (h | h | h)
            · exact hn h
            · omega
            · omega⟩,
          fun k hk hkw => by
            rcases hg'.old k ((hM k).2 (Or.inl hk)) (by omega) with h | h | h
            · exact h
            · omega
            · omega,
          fun k hk => by rw [World.putObj_size]; exact hg'.fit k ((hM k).2 (Or.inl hk))⟩
      have hD2 : ∀ o, (W2.putObj (w.heap.size + 1) o).heap[w.heap.size]? = some (.deferred (some [])) := fun o => (World.putObj_heap_other (by omega)).trans hD
      rcases h with ⟨rfl, hi, hl⟩ | ⟨rfl, c, hi, hl⟩
      · refine ⟨none, _, by have := run_endLoop (P := P) hl (by rw [hrec]; simp); rw [hrec] at this; exact this, ?_⟩
        exact hdone _ pre M1 _ (Nat.le_refl _) (by rw [World.putObj_size]; exact lt hD) n1 (ht rfl) (hI _ _ _ _ hi (kp _)) (hgr _) (hD2 _)
      · refine ⟨some c, _, by have := run_endLoop (P := P) hl (by rw [hrec]; simp); rw [hrec] at this; exact this, ?_⟩
        exact hstop _ c pre M1 _ (Nat.le_refl _) (by rw [World.putObj_size]; exact lt hD) n1 (hf rfl) (hIx _ _ _ _ _ hi (kp _)) (hgr _) (hD2 _)

end Go.Proofs.YtdbcdichmmcnbaaGreat

/-
  The library's maps.Values of a map of blocks: it hands out the blocks, in whatever order, to the rounds of whoever asks.
-/
namespace Go.Proofs.YtdbcdichmmcnbaaGreat
open Go.RowKit Go.Maps Go.Sort

attribute [local go_sem] Oper.semAt_some

def encBk (q : Bk) : Array Value := #[bkV q]
set_option maxRecDepth 100000 in
theorem keyOf_str {v : Value} {kl : Lit} (h : keyOf Tryz.prog 31 v = some kl) : ∃ s, kl = .string s := by
  unfold keyOf at h
  rw [Tryz.underlying31] at h
  simp only at h
  split at h
  · obtain ⟨ls, _, rfl⟩ := Option.map_eq_some_iff.1 h
    exact ⟨_, rfl⟩
  · cases h
theorem Grw.step {M M' : Nat → Prop} {W A B : World} {r : Nat} (h : Grw M M' W A) (hg : A.grownBy B (some r)) (hr : W.heap.size ≤ r) : Grw M M' W B :=
  ⟨⟨hg.os.trans h.kept.os, hg.tape.trans h.kept.tape, hg.output.trans h.kept.output, Nat.le_trans h.kept.size hg.size, fun k hk hm =>
      (hg.block k (Nat.lt_of_lt_of_le hk h.kept.size) (fun e => by have := Option.some.inj e; omega)).trans (h.kept.block k hk hm)⟩, h.old, fun k hk => Nat.lt_of_lt_of_le (h.fit k hk) hg.size⟩
theorem Kpt.ofGrown {M : Nat → Prop} {A B : World} {r : Nat} (hg : A.grownBy B (some r)) (hr : ¬ M r) : Kpt M A B :=
  ⟨hg.os, hg.tape, hg.output, hg.size, fun k hk hm => hg.block k hk (fun e => hr (by rw [← Option.some.inj e]; exact hm))⟩
theorem ranges_of {A B : World} {b r n cnt : Nat} {D : DataW Unit} {left : Lit → Bool} (h : A.ranges Tryz.prog 31 rdB b r n D left cnt) (h1 : B.heap[b]? = A.heap[b]?) (h2 : B.heap[r]? = A.heap[r]?) : B.ranges Tryz.prog 31 rdB b r n D left cnt := by
  obtain ⟨es, clock, since, seen, c0, hb, F, hs, hD, hr, rest⟩ := h
  exact ⟨es, clock, since, seen, c0, h1.trans hb, F, hs, hD, h2.trans hr, rest⟩
theorem vals_perm {D : DataW Unit} {bs ps : List Bk} {left : Lit → Bool} (h : HasB D bs) (hd : bs.Pairwise (fun q r => q.p ≠ r.p)) (hC : Collected D left (ps.map (fun q => pfB q.p))) (hV : ∀ q ∈ ps, ∀ z, D.atKey (.string (pfB q.p)) z = dtB q) (hl : ∀ kl, left kl = false) : ps.Perm bs := by
  have n1 : ps.Nodup := by
    have := hC.1
    rw [List.nodup_iff_pairwise_ne, List.pairwise_map] at this
    exact this.imp (fun {a b} hne e => hne (by rw [e]))
  have n2 : bs.Nodup := hd.imp (fun {a b} hne e => hne (by rw [e]))
  refine (List.perm_ext_iff_of_nodup n1 n2).2 fun q => ⟨fun hq => ?_, fun hq => ?_⟩
  · have h1 := has_true_of_atKey (hV q hq)
    obtain ⟨r, hr, e⟩ := h.key _ h1
    have h2 := h.at' r hr (.agg [])
    rw [e, hV q hq (.agg [])] at h2
    rw [dtB_inj h2]; exact hr
  · have h1 := has_true_of_atKey (h.at' q hq)
    have h2 := (hC.2 (pfB q.p)).2 ⟨h1, hl _⟩
    obtain ⟨y, hy, e⟩ := List.mem_map.1 h2
    have h3 := hV y hy (.agg [])
    rw [show pfB y.p = pfB q.p from e, h.at' q hq (.agg [])] at h3
    rw [dtB_inj h3]; exact hy

set_option maxRecDepth 100000 in
set_option maxHeartbeats 2000000 in
theorem values_iter (Bm b nn : Nat) (D : DataW Unit) (bs : List Bk) (hH : HasB D bs) (hd : bs.Pairwise (fun q r => q.p ≠ r.p)) (w : World) (hm : w.cell? ⟨Bm, 0, none⟩ = some (.map (some b))) (hown : w.ownsMap Tryz.prog 31 rdB b nn D) :
    IterS Tryz.prog 124 #[.pointer (some ⟨Bm, 0, none⟩)] encBk (fun ys => ys.length ≤ Maps.size D) (fun ys => ys.Perm bs) (fun k => k = Bm ∨ k = b) w := by
  intro l J M W hk hRM hfit hA hRn hJ0
  have hBm : Bm < w.heap.size := World.block_lt_of_cell? w _ hm
  have hbl := hown.lt
  have hm' : W.cell? ⟨Bm, 0, none⟩ = some (.map (some b)) := (hk.cell hBm (Or.inl rfl)).trans hm
  have hown' : W.ownsMap Tryz.prog 31 rdB b nn D := by
    obtain ⟨es, clock, hb, F, hs, hD⟩ := hown
    exact ⟨es, clock, (hk.block b hbl (Or.inr rfl)).trans hb, F, hs, hD⟩
  have hMb : ¬ M b := hRM b (Or.inr rfl)
  have hbW : b < W.heap.size := Nat.lt_of_lt_of_le hbl hk.size
  have hMr : ¬ M W.heap.size := fun h => Nat.lt_irrefl _ (hfit _ h)
  refine (callsIn_wide (n := 9)).1 (callsIn_of_wp Tryz.func124 rfl trivial ?_ rfl)
  simp only [Tryz.ntmps124, List.size_toArray, List.length_cons, List.length_nil, Nat.reduceAdd, Nat.reduceSub, Array.replicate_succ, Array.replicate_zero, List.push_toArray, List.append_toArray, List.nil_append, List.cons_append]
  gi_wp2_with (first
    | (gi_at_range; refine wpListIn_range_own _ rfl _ 80 rfl 31 38 Tryz.keyPf Tryz.underlying80 _ b nn _ rfl hown' ?_; intro w0 hrg0 hg0 hs0)
    | gi_in)
  have hG0 : Grw M M W w0 := ⟨⟨hg0.os, hg0.tape, hg0.output, hg0.size, fun k hk' _ => hg0.block k hk' (by simp)⟩, fun _ h _ => h, fun k h => by have := hfit k h; omega⟩
  have hJ1 : J true [] M w0 := hA _ _ _ _ _ hJ0 ⟨hg0.os, hg0.tape, hg0.output, hg0.size, fun k hk' _ => hg0.block k hk' (by simp)⟩
  try go_frame
  gi_loopw [4] (fun _ wr => ∃ (left : Lit → Bool) (cnt : Nat) (ps : List Bk) (M' : Nat → Prop), wr.ranges Tryz.prog 31 rdB b W.heap.size nn D left cnt ∧ ps.length + cnt ≤ Maps.size D ∧ Collected D left (ps.map (fun q => pfB q.p)) ∧ (∀ q ∈ ps, ∀ z, D.atKey (.string (pfB q.p)) z = dtB q) ∧ J true ps M' wr ∧ Grw M M' W wr ∧ ¬ M' W.heap.size)
    (fun _ wr => wr.rangeLeft b W.heap.size)
  case atStart => exact ⟨_, _, [], M, hrg0, by simp, Collected.start D, by simp, hJ1, hG0, hMr⟩
  case round =>
    obtain ⟨left, cnt, ps, M', hrg, hcs, hC, hV, hJs, hG, hM'r⟩ := hrel
    have hM'b : ¬ M' b := fun h => hMb (hG.old b h hbW)
    gi_wp2_with (first
      | (gi_at_next; refine wpListIn_next_ranges _ rfl _ rfl 31 Tryz.keyPf rdB (fun v : Value => v) bkV (fun key kl hk => ⟨key, rfl⟩) (fun v y hv => by obtain ⟨c, rfl, _⟩ := rdB_inv hv; exact ⟨c, rfl⟩) b W.heap.size nn _ _ _ rfl hrg ?_ ?_)
      | gi_in)
    · intro hc0 hl0
      gi_wp2
      go_end0
      exact ⟨⟨_, rfl⟩, true, ps, M', hJs, hG, fun _ => vals_perm hH hd hC hV hl0, fun h => by cases h⟩
    · intro key c kl yd yp w2 cnt2 hkey hlk hv hat hrg2 hlt hg2 hs2 hen
      obtain ⟨c', ec, ey⟩ := rdB_inv hv
      obtain rfl : c = c' := bkV_inj ec
      obtain rfl : yd = dtB c := (Prod.mk.inj ey).1
      obtain ⟨s, rfl⟩ := keyOf_str hkey
      obtain ⟨r, hr, es⟩ := hH.key s (has_true_of_atKey hat)
      have hrc : r = c := dtB_inj (by have h1 := hH.at' r hr (.agg []); rw [es, hat (.agg [])] at h1; exact h1.symm)
      subst hrc
      subst es
      have hC2 : Collected D (fun z => left z && !z.sameKey (.string (pfB r.p))) ((ps ++ [r]).map (fun q => pfB q.p)) := by simpa using hC.step hlk hat
      have hV2 : ∀ q ∈ ps ++ [r], ∀ z, D.atKey (.string (pfB q.p)) z = dtB q := fun q hq => (List.mem_append.1 hq).elim (hV q) (fun e => by simp at e; subst e; exact hat)
      have hJ2 : J true ps M' w2 := hA _ _ _ _ _ hJs (Kpt.ofGrown hg2 hM'r)
      have hG2 : Grw M M' W w2 := hG.step hg2 (Nat.le_refl _)
      have hrW : W.heap.size < w2.heap.size := hrg2.lt
      have zb := (Below.refl w2.heap.size w2).alloc (Nat.le_refl _) (.cells #[.bool r.p.s, .int .i64 r.p.H.toInt, .int .i64 r.p.L.toInt, .int .i64 r.p.b, .string r.t] 38)
      have hJ3 := hA _ _ _ _ _ hJ2 (Kpt.ofBelow M' zb)
      have hG3 : Grw M M' W _ := hG2.trans (Grw.ofBelow zb hG2.fit)
      have hrg3 := hrg2.alloc (.cells #[.bool r.p.s, .int .i64 r.p.H.toInt, .int .i64 r.p.L.toInt, .int .i64 r.p.b, .string r.t] 38)
      have hbl3 := hrg3.owns.lt
      have hrl3 := hrg3.lt
      obtain ⟨fn, tmps, assign, body, hy, hR⟩ := hRn 8 ps r M' _ hJ3 hG3.fit (by show (ps ++ [r]).length ≤ Maps.size D; rw [List.length_append]; simp; omega)
      dsimp only [encBk, bkV] at hy
      dsimp only [bkV] at hen
      clear hs2
      gi_wp2
      refine hR.mono ?_
      rintro e W4 ⟨bb, M4, rfl, hJ4, hG4⟩
      have hM4r : ¬ M4 W.heap.size := fun h => hM'r (hG4.old _ h hrl3)
      have hrg4 := ranges_of hrg3 (hG4.kept.block b hbl3 hM'b) (hG4.kept.block W.heap.size hrl3 hM'r)
      cases bb
      · gi_wp2
        refine bodyPost_ret (results_none rfl _ _ _) rfl ?_
        exact ⟨⟨_, rfl⟩, false, ps ++ [r], M4, hJ4, hG3.trans hG4, fun h => (by cases h), fun _ => (by show (ps ++ [r]).length ≤ Maps.size D; rw [List.length_append]; simp; omega)⟩
      · gi_wp2
        go_roundw
        case rel => exact ⟨_, cnt2, ps ++ [r], M4, hrg4, by rw [List.length_append]; simp; omega, hC2, hV2, hJ4, hG3.trans hG4, hM4r⟩
        case measure => rw [hrg4.left_eq, hrg.left_eq]; exact hlt

end Go.Proofs.YtdbcdichmmcnbaaGreat

/-
  The library's AppendSeq and Collect at rows of blocks: what an iterator hands out, one behind another in a row of its own.
-/
namespace Go.Proofs.YtdbcdichmmcnbaaGreat
open Go.RowKit Go.Maps

attribute [local go_sem] Oper.semAt_some

theorem sizeA (w : World) (o : Obj) : (w.alloc o).heap.size = w.heap.size + 1 := by simp
theorem lt_heap {A : World} {k : Nat} {o : Obj} (h : A.heap[k]? = some o) : k < A.heap.size := (Array.getElem?_eq_some_iff.1 h).1
theorem Kpt.at {M : Nat → Prop} {A B : World} {k : Nat} {o : Obj} (hk : Kpt M A B) (hm : M k) (h : A.heap[k]? = some o) : B.heap[k]? = some o := (hk.block k (lt_heap h) hm).trans h
theorem kpt_set {M : Nat → Prop} (V : World) (p : Addr) (u : Value) (hm : M p.block) : Kpt (fun k => ¬ M k) V (V.setCell p u) :=
  ⟨rfl, rfl, rfl, by simp [World.setCell], fun k _ hk => Below.heap_setCell V p u k fun e => hk (e ▸ hm)⟩
theorem set1 {V : World} {k : Nat} {v u : Value} {t : TypeId} (h : V.heap[k]? = some (.cells #[v] t)) : (V.setCell ⟨k, 0, none⟩ u).heap[k]? = some (.cells #[u] t) := by
  simp [World.setCell, Array.getElem?_modify, h]
theorem of1 {V : World} {k : Nat} {v : Value} {t : TypeId} (h : V.heap[k]? = some (.cells #[v] t)) : V.cell? ⟨k, 0, none⟩ = some v ∧ V.frozen? ⟨k, 0, none⟩ = false := by
  constructor <;> simp [World.cell?, World.frozen?, h]
theorem wpListIn_appG {F : Fence} {fu : Nat} {α : Type} {K : Kd α} {z : Value} {bytes : Nat} {P : Program} {t e : TypeId} (h4 : GTy K z bytes P t e) {ops : Array Oper} {rest : List Oper} {o : Oper} {a : Act} {Q : Exit → Act → World → Prop} (w : World) (hgd : o.guard = none) (s x : Operand) (tx : TypeId)
    (ho : o.op = .call { callee := .builtin .append, args := #[s, x], argTypes := #[t, tx] })
    (B : Nat) (ad : Option Addr) (n cap m : Nat) (ps qs : List α) (xv : Value) (hsv : a.eval s = .slice ad n cap) (hn : n = ps.length) (hm : m = qs.length) (hown : OwnG K e w B (.slice ad n cap) ps)
    (hx : a.eval x = xv) (hs : Src P K.k tx xv m (gflat K qs) w) (hl : n + m ≤ 1000000000) (hB : B ≤ w.heap.size)
    (h : ∀ a' c' w', OwnG K e w' B (.slice a' (n + m) c') (ps ++ qs) → w.grownBy w' (Value.slice ad n cap).ownBlock → (a' = ad ∨ a' = some ⟨w.heap.size, 0, none⟩) → wpListIn F fu P ops Q rest (a.put o.dst (.slice a' (n + m) c')) w') : wpListIn F fu P ops Q (o :: rest) a w := by
  refine wpListIn_plain hgd fun K9 hK' => ?_
  obtain ⟨b, c, w', hr, h2, h3, h5⟩ := app_rowG h4 w B tx o.type ad n cap m ps qs xv hn hm hown hs hl hB
  unfold Oper.wpIn
  refine ⟨?_, ?_⟩
  · simp [Oper.about, ho, resolve, Target.leads, Sem.run_pure]
  · rw [Oper.semAt_plain F _ _ (by rw [ho]; intro c hc'; cases hc')]
    simp [execOp, ho, resolve, invoke, builtin, hsv, hx, hr, Result.andThen]
    exact hK' _ _ (h b c w' h2 h3 h5)

theorem OwnG.kptG {α : Type} {K : Kd α} {t : TypeId} {w w' : World} {B : Nat} {v : Value} {ps : List α} {M : Nat → Prop} (h : OwnG K t w B v ps) (hk : Kpt M w w') (hm : ∀ k, v.ownBlock = some k → M k) : OwnG K t w' B v ps := by
  refine ⟨h.1, ?_⟩
  rcases h.2 with h1 | ⟨g, cap, cur, hv, hb, hr, hr'⟩
  · exact Or.inl h1
  · exact Or.inr ⟨g, cap, cur, hv, hb, hk.at (hm g (by rw [hv]; rfl)) hr, hr'⟩
/-- The rounds of AppendSeq own the box and the row in it. -/
def apM (s : Nat) (v : Value) (k : Nat) : Prop := k = s ∨ v.ownBlock = some k

set_option maxRecDepth 10000 in
set_option maxHeartbeats 2000000 in
theorem appSeqB (gf : Nat) (lb : Array Value) (eg : ∀ args w, (callFunc gf args).run Tryz.prog w = .ok (.enter gf args) w) (N : Nat) (hl : N ≤ 100000) (Fu : List Bk → Prop) (R : Nat → Prop) (B : Nat) (w : World) (hit : IterS Tryz.prog gf lb encBk (fun ys => ys.length ≤ N) Fu R w) (hR : ∀ k, R k → k < w.heap.size) (hB : B ≤ w.heap.size) :
    Calls Tryz.prog 147 #[.slice none 0 0, .func (.func gf) #[] lb] w fun e w' => ∃ a' n' c' ys, e = .returned (.slice a' n' c') ∧ n' = ys.length ∧ Fu ys ∧ n' ≤ N ∧ OwnG KBk 38 w' B (.slice a' n' c') ys ∧ Below B w w' := by
  have HIt := hidP (hit.later (Kpt.ofBelow R ((Below.refl _ w).alloc (Nat.le_refl _) (.cells #[.slice none 0 0] 25))))
  have HR := hidP hR
  have HO := hidP (own_noneG KBk (w.alloc (.cells #[.slice none 0 0] 25)) B 38)
  have HEg := hidP eg
  clear hit hR eg
  refine (callsIn_wide (n := 9)).1 (callsIn_of_wp_marks Tryz.func147 rfl trivial ?_ rfl)
  simp only [Tryz.ntmps147, List.size_toArray, List.length_cons, List.length_nil, Nat.reduceAdd, Nat.reduceSub, Array.replicate_succ, Array.replicate_zero, List.push_toArray, List.append_toArray, List.nil_append, List.cons_append]
  gi_wp2
  have HN0 := hidP (World.alloc_heap_new w (.cells #[.slice none 0 0] 25))
  have hs1 : (w.alloc (.cells #[.slice none 0 0] 25)).heap.size = w.heap.size + 1 := by simp
  have HB1 := hidP ((Below.refl _ w).alloc (Nat.le_refl _) (.cells #[.slice none 0 0] 25))
  generalize w.alloc (.cells #[.slice none 0 0] 25) = W1 at *
  refine wp_rangeS (gf := gf) (lb := lb) rfl HEg.out HIt.out (fun _ => rfl) (fun k h => by have := HR.out k h; omega)
    (fun pre M V => ∃ ad c, pre.length ≤ N ∧ OwnG KBk 38 V B (.slice ad pre.length c) pre ∧ M = apM w.heap.size (.slice ad pre.length c) ∧ (Value.slice ad pre.length c).ownBlock ≠ some w.heap.size ∧ V.heap[w.heap.size]? = some (.cells #[.slice ad pre.length c] 25))
    (fun _ _ _ _ => False)
    (fun pre M A B' h hk => ?hI) (fun c pre M A B' h hk => h.elim) (apM w.heap.size (.slice none 0 0)) (fun k h => ?hfit) (fun k h hm => ?hdis) ⟨none, 0, Nat.zero_le _, HO.out, rfl, (fun h => by cases h), HN0.out⟩ ?round ?done ?stop
  case hI =>
    obtain ⟨ad, c, hN, ho, rfl, hne, hh⟩ := h
    exact ⟨ad, c, hN, ho.kptG hk (fun k h => Or.inr h), rfl, hne, hk.at (Or.inl rfl) hh⟩
  case hfit =>
    rcases h with h | h
    · omega
    · cases h
  case hdis =>
    rcases hm with hm | hm
    · have := HR.out k h; omega
    · cases hm
  case stop =>
    intro D c pre M1 V _ _ _ _ h
    exact h.elim
  case done =>
    rintro D ys M1 V hD hDl hMD hFu ⟨ad, c, hN, ho, rfl, hne, hh⟩ hg hK
    obtain ⟨v0, f0⟩ := of1 hh
    have lz := lt_heap hh
    have HE : Hid (OwnG KBk 38 (V.putObj D (.deferred none)) B (.slice ad ys.length c) ys ∧ Below B w (V.putObj D (.deferred none))) := by
      refine hidP ⟨ho.kptG (kpt_put V D _) (fun k h e => hMD (Or.inr (e ▸ h))), ?_⟩
      have hz := HB1.out.size
      refine ⟨hg.kept.os.trans HB1.out.os, hg.kept.tape.trans HB1.out.tape, hg.kept.output.trans HB1.out.output, by have := hg.kept.size; rw [World.putObj_size]; omega, fun k hk => (World.putObj_heap_other (by omega)).trans ((hg.kept.block k (by omega) ?_).trans (HB1.out.block k (by omega)))⟩
      rintro (h | h)
      · omega
      · cases h
    have HFN := hidP (And.intro hFu hN)
    clear ho hh hg hFu hN
    gi_wp2
    refine ⟨by simp, .inl ⟨_, _, rfl, run_takeDeferred hK, ?_⟩⟩
    exact ⟨_, results_tmp rfl _ _ _, ad, _, c, ys, rfl, rfl, HFN.out.1, HFN.out.2, HE.out⟩
  case round =>
    intro l' pre x M1 V _ hf hl' _ hlt hpre
    unfold encBk bkV
    refine rnd_of ?_
    intro K' HK'
    have HF0 := hidP hf
    have hpl0 : pre.length + 1 ≤ N := by
      have h9 : (pre ++ [x]).length ≤ N := hpre
      rw [List.length_append, List.length_singleton] at h9
      exact h9
    have hpl : pre.length + 1 ≤ 100000 := by omega
    have HPl := hidP hpl0
    clear hf hl' hpre hpl0
    gi_wp2
    refine HK'.out _ _ ⟨(Below.refl _ V).alloc (Nat.le_refl _) _, ?_⟩
    clear HK'
    rintro V2 hk2 hs2 ⟨ad, c, _, ho, rfl, hne, hh⟩
    obtain ⟨x0, x1, x2, x3, x4⟩ := boxBk (q := x) V 38
    have lV : V.heap.size < (V.alloc (.cells #[.bool x.p.s, .int .i64 x.p.H.toInt, .int .i64 x.p.L.toInt, .int .i64 x.p.b, .string x.t] 38)).heap.size := by simp
    have nV : V.heap.size ≠ l' := by omega
    have y0 := (hk2.cell (p := ⟨V.heap.size, 0, none⟩) lV nV).trans x0
    have y1 := (hk2.cell (p := ⟨V.heap.size, 1, none⟩) lV nV).trans x1
    have y2 := (hk2.cell (p := ⟨V.heap.size, 2, none⟩) lV nV).trans x2
    have y3 := (hk2.cell (p := ⟨V.heap.size, 3, none⟩) lV nV).trans x3
    have y4 := (hk2.cell (p := ⟨V.heap.size, 4, none⟩) lV nV).trans x4
    have hVs : V.heap.size < V2.heap.size := by rw [hs2]; exact lV
    obtain ⟨v0, f0⟩ := of1 hh
    have lz := lt_heap hh
    have HOw := hidP ho
    have HH := hidP hh
    have HNe := hidP hne
    have HFt : Hid (∀ k, apM w.heap.size (.slice ad pre.length c) k → k < V2.heap.size) := hidP fun k h => by have := HF0.out k h; omega
    obtain ⟨m, hm⟩ : ∃ m, m = pre.length := ⟨_, rfl⟩
    have HM := hidP hm
    rw [← hm] at hpl v0
    clear hk2 hs2 ho hh hne x0 x1 x2 x3 x4 lV nV hm
    have HOa := hidP (HOw.out.alloc (.cells #[.bool x.p.s, .int .i64 x.p.H.toInt, .int .i64 x.p.L.toInt, .int .i64 x.p.b, .string x.t] 38))
    have HRo := hidP ((own_oneG KBk V2 V2.heap.size 38 x (Nat.le_refl _)).row)
    have HSz := hidP (sizeA V2 (.cells #[.bool x.p.s, .int .i64 x.p.H.toInt, .int .i64 x.p.L.toInt, .int .i64 x.p.b, .string x.t] 38))
    gi_wp2_with (gi_at_builtin; refine wpListIn_appG Tryz.tyBk _ rfl (.tmp 8) (.tmp 10) 25 rfl B ad m c 1 pre [x] (.slice (some ⟨V2.heap.size, 0, none⟩) 1 1) rfl HM.out rfl (by rw [HM.out]; exact HOa.out) rfl (src_rowG Tryz.tyBk.1 1 1 (by show 0 < 5; omega) rfl HRo.out (fun h => by cases h)) (by omega) (by have := HSz.out; omega) ?_; intro a6 c6 w4 ho4 hg4 ht4; have HH4 := hidP ((hg4.block w.heap.size (by rw [HSz.out]; omega) (by rw [HM.out]; exact fun e => HNe.out e.symm)).trans ((Below.heap_alloc V2 _ w.heap.size lz).trans HH.out)); have v4 := (of1 HH4.out).1; have f4 := (of1 HH4.out).2; have lz4 := lt_heap HH4.out)
    have hlen : (pre ++ [x]).length = m + 1 := by rw [List.length_append, ← HM.out]; rfl
    have hnb : (Value.slice a6 (m + 1) c6).ownBlock ≠ some w.heap.size := by
      rcases ht4 with h | h
      · rw [h]; have := HNe.out; rw [← HM.out] at this
        cases ad <;> exact this
      · rw [h]; intro e
        have e2 : (V2.alloc (.cells #[.bool x.p.s, .int .i64 x.p.H.toInt, .int .i64 x.p.L.toInt, .int .i64 x.p.b, .string x.t] 38)).heap.size = w.heap.size := Option.some.inj e
        rw [HSz.out] at e2
        omega
    refine ⟨apM w.heap.size (.slice a6 (m + 1) c6), ⟨a6, c6, by rw [hlen, HM.out]; exact HPl.out, ?_, by rw [hlen], by rw [hlen]; exact hnb, by rw [hlen]; exact set1 HH4.out⟩, ?_⟩
    · rw [hlen]
      exact OwnG.kptG ho4 (kpt_set (M := fun k => k = w.heap.size) w4 ⟨w.heap.size, 0, none⟩ _ rfl) (fun k h e => hnb (e ▸ h))
    · have hz4 := hg4.size
      rw [HSz.out] at hz4
      refine ⟨⟨hg4.os, hg4.tape, hg4.output, by simp [World.setCell]; omega, fun k hk hn => ?_⟩, fun k h hk => ?_, fun k h => ?_⟩
      · refine (Below.heap_setCell w4 _ _ k (fun e => hn (Or.inl e))).trans ((hg4.block k (by rw [HSz.out]; omega) (fun e => hn (Or.inr ?_))).trans (Below.heap_alloc V2 _ k hk))
        rw [← HM.out]; exact e.symm
      · rcases h with h | h
        · exact Or.inl h
        · rcases ht4 with h' | h'
          · rw [h'] at h
            refine Or.inr ?_
            cases ad <;> exact h
          · rw [h'] at h
            have e2 : (V2.alloc (.cells #[.bool x.p.s, .int .i64 x.p.H.toInt, .int .i64 x.p.L.toInt, .int .i64 x.p.b, .string x.t] 38)).heap.size = k := Option.some.inj h
            rw [HSz.out] at e2
            omega
      · have hz5 : (w4.setCell ⟨w.heap.size, 0, none⟩ (.slice a6 (m + 1) c6)).heap.size = w4.heap.size := by simp [World.setCell]
        rw [hz5]
        rcases h with h | h
        · omega
        · exact (ho4.lt k h).2

end Go.Proofs.YtdbcdichmmcnbaaGreat
