/-
  The program's GroupOf of a right Keep, exactly.
-/
import Derived.Test.YtamaanbnlnpjcaaV13C
import Derived.Test.YtamaanbnlnpjcaaV12GB
namespace Go.Proofs.Ytamaanbnlnpjcaa
open Go.ChangeShapes Go.WideShapes Go.ChangeAt Go.RowKit Go.Joins Go.Deep

attribute [local go_sem] Oper.semAt_some

/-- A group's two rows out of its two bytes. -/
def grZ (zs : List Int) : List Int × List Int := (lsB 7 (zs.headD 0).toNat 1, lsB 7 (zs.tail.headD 0).toNat 1)
/-- The bytes of the first group among entries told from the last. -/
def fnd (l : List (Nat × En)) : Option (List Int) := (l.find? (fun x => decide (x.2.K = 3))).map (fun x => x.2.zs)
theorem fnd_hit {pre rest : List (Nat × En)} {x : Nat × En} (h : ∀ y ∈ pre, y.2.K ≠ 3) (hx : x.2.K = 3) : fnd (pre ++ x :: rest) = some x.2.zs := by
  unfold fnd
  rw [List.find?_append, List.find?_eq_none.2 (fun y hy => by simpa using h y hy), List.find?_cons_of_pos (by simpa using hx)]
  rfl
theorem fnd_none {l : List (Nat × En)} (h : ∀ y ∈ l, y.2.K ≠ 3) : fnd l = none := by
  unfold fnd
  rw [List.find?_eq_none.2 (fun y hy => by simpa using h y hy)]
  rfl
theorem fnd_miss {l : List (Nat × En)} {x : Nat × En} (hx : x.2.K ≠ 3) : fnd (x :: l) = fnd l := by
  unfold fnd
  rw [List.find?_cons_of_neg (by simpa using hx)]
/-- The group of a right Keep. -/
def grOf (k : Kv) : List Int × List Int := match fnd (bkF k.es k.ln) with
  | some zs => grZ zs
  | none => (k.ps, k.bs)
theorem grOf_s {k : Kv} {zs : List Int} (h : fnd (bkF k.es k.ln) = some zs) : grOf k = grZ zs := by unfold grOf; rw [h]
theorem grOf_n {k : Kv} (h : fnd (bkF k.es k.ln) = none) : grOf k = (k.ps, k.bs) := by unfold grOf; rw [h]
theorem ls_len8 (z : Nat) : (lsB 7 z 1).length ≤ 7 := by
  have : ∀ (f i : Nat), (lsB f z i).length ≤ f := fun f => by
    induction f with
    | zero => intro i; simp [lsB]
    | succ f ih =>
      intro i
      by_cases h1 : z / 2 ^ (i - 1) % 2 = 1
      · rw [lsB_yes h1]; have := ih (i + 1); simp; omega
      · rw [lsB_no h1]; have := ih (i + 1); omega
  exact this 7 1
/-- A group in rows of the call's own. -/
def GrE (P : List Int × List Int) (w w' : World) (e : Ending) : Prop := ∃ a1 c1 b1 d1, e = .returned (.agg #[.slice a1 P.1.length c1, .slice b1 P.2.length d1]) ∧ OwnG KI 3 w' w.heap.size (.slice a1 P.1.length c1) P.1 ∧ OwnG KI 3 w' w.heap.size (.slice b1 P.2.length d1) P.2 ∧ (∀ q, (Value.slice a1 P.1.length c1).ownBlock = some q → (Value.slice b1 P.2.length d1).ownBlock ≠ some q)
theorem sep8 {α β : Type} {K : Kd α} {L : Kd β} {t u : TypeId} {X : World} {B C : Nat} {v x : Value} {ps : List α} {qs : List β} (h : OwnG K t X B v ps) (g : OwnG L u X C x qs) (hn : t ≠ u) : ∀ q, v.ownBlock = some q → x.ownBlock ≠ some q := by
  intro q hv hx
  rcases h.2 with ⟨rfl, _⟩ | ⟨b, c, cur, rfl, _, hr, _⟩
  · cases hv
  · rcases g.2 with ⟨rfl, _⟩ | ⟨b', c', cur', rfl, _, hr', _⟩
    · cases hx
    · have e1 : b = q := Option.some.inj hv
      have e2 : b' = q := Option.some.inj hx
      rw [e1] at hr
      rw [e2] at hr'
      rw [hr] at hr'
      have := Option.some.inj hr'
      simp at this
      exact hn this.2
theorem iGet_ex (a : Option Addr) (n c : Nat) (zs : List Int) (w : World) (hn : n = zs.length) (ho : Oct zs) (hB : RowG KBy w a zs) (hg : gB zs = true) :
    Calls Try.prog 42 #[.slice a n c] w fun e w' => ∃ a1 c1 b1 d1, e = .returned (.tuple #[.agg #[.slice a1 (grZ zs).1.length c1, .slice b1 (grZ zs).2.length d1], .bool true]) ∧ OwnG KI 3 w' w.heap.size (.slice a1 (grZ zs).1.length c1) (grZ zs).1 ∧ OwnG KI 3 w' w.heap.size (.slice b1 (grZ zs).2.length d1) (grZ zs).2 ∧ (∀ q, (Value.slice a1 (grZ zs).1.length c1).ownBlock = some q → (Value.slice b1 (grZ zs).2.length d1).ownBlock ≠ some q) ∧ Below w.heap.size w w' := by
  match zs, hn, ho, hB, hg with
  | [u, v], hn, ho, hB, hg =>
    subst hn
    have hu := ho u (by simp)
    have hv := ho v (by simp)
    obtain ⟨bx, rfl⟩ : ∃ bx : Nat, u = (bx : Int) := ⟨u.toNat, by omega⟩
    obtain ⟨bq, rfl⟩ : ∃ bq : Nat, v = (bq : Int) := ⟨v.toNat, by omega⟩
    have hx : bx < 256 := by omega
    have hy : bq < 256 := by omega
    obtain ⟨p, o, q, rfl, _⟩ := hB 0 (by simp)
    have he : gotB bx bq = true := by simpa [gB] using hg
    have hz : grZ [(bx : Int), (bq : Int)] = (ofB 8 bx 1, ofB 8 bq 1) := by
      obtain ⟨h1, h2⟩ := got_same bx bq he
      rw [h1, h2]
      unfold grZ
      simp
    rw [hz]
    exact iGgA_good p o c bx bq hx hy w hB he
  | [], _, _, _, hg => exact absurd hg (by decide)
  | [_], _, _, _, hg => exact absurd hg (by simp [gB])
  | _ :: _ :: _ :: _, _, _, _, hg => exact absurd hg (by simp [gB])
theorem sGet_ex (g n : Nat) (zs : List Int) (w : World) (hn : n = zs.length) (ho : Oct zs) (hB : RowG KBy w (some ⟨g, 0, none⟩) zs) (hg : gB zs = true) :
    Calls Try.prog 84 #[.slice (some ⟨g, 0, none⟩) n n] w fun e w' => ∃ a1 c1 b1 d1, e = .returned (.tuple #[.agg #[.slice a1 (grZ zs).1.length c1, .slice b1 (grZ zs).2.length d1], .bool true]) ∧ OwnG KI 3 w' w.heap.size (.slice a1 (grZ zs).1.length c1) (grZ zs).1 ∧ OwnG KI 3 w' w.heap.size (.slice b1 (grZ zs).2.length d1) (grZ zs).2 ∧ (∀ q, (Value.slice a1 (grZ zs).1.length c1).ownBlock = some q → (Value.slice b1 (grZ zs).2.length d1).ownBlock ≠ some q) ∧ Below w.heap.size w w' := by
  match zs, hn, ho, hB, hg with
  | [u, v], hn, ho, hB, hg =>
    subst hn
    have hu := ho u (by simp)
    have hv := ho v (by simp)
    obtain ⟨bx, rfl⟩ : ∃ bx : Nat, u = (bx : Int) := ⟨u.toNat, by omega⟩
    obtain ⟨bq, rfl⟩ : ∃ bq : Nat, v = (bq : Int) := ⟨v.toNat, by omega⟩
    have hx : bx < 256 := by omega
    have hy : bq < 256 := by omega
    have he : gotB bx bq = true := by simpa [gB] using hg
    have hs := got_s bx bq hx hy
    rw [he, Bool.and_eq_true] at hs
    have hz : grZ [(bx : Int), (bq : Int)] = (lsB 7 bx 1, lsB 7 bq 1) := by
      unfold grZ
      simp
    rw [hz]
    exact sGg_good g bx bq hx hy w hB hs.1 hs.2
  | [], _, _, _, hg => exact absurd hg (by decide)
  | [_], _, _, _, hg => exact absurd hg (by simp [gB])
  | _ :: _ :: _ :: _, _, _, _, hg => exact absurd hg (by simp [gB])

set_option maxRecDepth 10000 in
set_option maxHeartbeats 4000000 in
theorem groupOf_ex (k : Kv) (ho : KvOk k) (w : World) (hr : KvR w k) (hsep : ∀ e ∈ k.es, ∀ p o, e.a = some ⟨p, o, none⟩ → ∀ o', k.la ≠ some ⟨p, o', none⟩) :
    Calls Try.prog 15 #[k.v] w fun e w' => GrE (grOf k) w w' e ∧ Below w.heap.size w w' := by
  have HKo := hidP (fun W h => iKeepOk_yes k ho W (hr.later h))
  have HR := hidP hr
  have HO := hidP ho
  have HS := hidP hsep
  have HGF := hidP (fun zs (h : fnd (bkF k.es k.ln) = some zs) => grOf_s h)
  have HGN := hidP (fun (h : fnd (bkF k.es k.ln) = none) => grOf_n h)
  generalize grOf k = P at *
  clear ho hr hsep
  refine (callsIn_wide (n := 9)).1 (callsIn_of_wp_marks Try.func15 rfl trivial ?_ rfl)
  simp only [Try.ntmps15, List.size_toArray, List.length_cons, List.length_nil, Nat.reduceAdd, Nat.reduceSub, Array.replicate_succ, Array.replicate_zero, List.push_toArray, List.append_toArray, List.nil_append, List.cons_append]
  gi_wp2
  have b1 := alloc_below w (.cells #[.int .i64 k.T, .int .i64 k.V, .int .i64 k.B, .int .i64 k.E, .slice k.ga k.gn k.gc, .slice k.ha k.hn k.hc, .slice k.sa k.sn k.sc, .slice k.la k.ln k.lc] 29)
  have s1 : (w.alloc (.cells #[.int .i64 k.T, .int .i64 k.V, .int .i64 k.B, .int .i64 k.E, .slice k.ga k.gn k.gc, .slice k.ha k.hn k.hc, .slice k.sa k.sn k.sc, .slice k.la k.ln k.lc] 29)).heap.size = w.heap.size + 1 := by simp
  have o1 : (w.alloc (.cells #[.int .i64 k.T, .int .i64 k.V, .int .i64 k.B, .int .i64 k.E, .slice k.ga k.gn k.gc, .slice k.ha k.hn k.hc, .slice k.sa k.sn k.sc, .slice k.la k.ln k.lc] 29)).heap[w.heap.size]? = some (.cells #[.int .i64 k.T, .int .i64 k.V, .int .i64 k.B, .int .i64 k.E, .slice k.ga k.gn k.gc, .slice k.ha k.hn k.hc, .slice k.sa k.sn k.sc, .slice k.la k.ln k.lc] 29) := World.alloc_heap_new ..
  generalize w.alloc (.cells #[.int .i64 k.T, .int .i64 k.V, .int .i64 k.B, .int .i64 k.E, .slice k.ga k.gn k.gc, .slice k.ha k.hn k.hc, .slice k.sa k.sn k.sc, .slice k.la k.ln k.lc] 29) = W1 at *
  have b2 := alloc_below W1 (.cells #[.slice none 0 0, .slice none 0 0] 26)
  have s2 : (W1.alloc (.cells #[.slice none 0 0, .slice none 0 0] 26)).heap.size = w.heap.size + 2 := by simp; omega
  have o2 : (W1.alloc (.cells #[.slice none 0 0, .slice none 0 0] 26)).heap[w.heap.size + 1]? = some (.cells #[.slice none 0 0, .slice none 0 0] 26) := by rw [← s1]; exact World.alloc_heap_new ..
  generalize W1.alloc (.cells #[.slice none 0 0, .slice none 0 0] 26) = W2 at *
  have o1' := (b2.block w.heap.size (by omega)).trans o1
  have bW := b1.trans (b2.mono (by omega))
  clear b1 b2 s1 o1 W1
  refine ⟨trivial, (callsIn_wide.2 (HKo.out _ bW)).mono ?_⟩
  rintro e w3 ⟨rfl, hb3⟩
  have p1 := (hb3.block w.heap.size (by omega)).trans o1'
  have p2 := (hb3.block (w.heap.size + 1) (by omega)).trans o2
  have b3 := bW.trans (hb3.mono (by omega))
  have s3 : w.heap.size + 2 ≤ w3.heap.size := by have := hb3.size; omega
  have c7 := obj_cell (i := 7) p1 rfl
  have HP := hidP (And.intro p1 (And.intro p2 b3))
  clear o1' o2 bW hb3 s2 W2 p1 p2 b3
  gi_wp2
  refine ⟨trivial, (callsIn_wide.2 (back_any k.la k.ln k.lc _)).mono ?_⟩
  rintro e w4 ⟨rfl, hw4⟩
  have b4 : Below w3.heap.size w3 w4 := by rw [hw4]; exact alloc_below ..
  have q4 : w4.cell? ⟨w3.heap.size, 0, none⟩ = some (.slice k.la k.ln k.lc) := by rw [hw4]; simp [go_sem]
  have s4 : w4.heap.size = w3.heap.size + 1 := by rw [hw4]; simp
  have b5 : Below w.heap.size w w4 := HP.out.2.2.trans (b4.mono (by omega))
  have r1 := (b4.block w.heap.size (by omega)).trans HP.out.1
  have r2 := (b4.block (w.heap.size + 1) (by omega)).trans HP.out.2.1
  have HIt := hidP (back_iter w3.heap.size k.la k.ln k.lc k.es w4 HR.out.hl (by rw [HR.out.hl]; exact HO.out.lg) q4 (HR.out.rl.later b5))
  have hlog : 0 < k.es.length → ∀ p o, k.la = some ⟨p, o, none⟩ → p < w.heap.size := fun h0 p o ha => by
    obtain ⟨p', o', q, ha', hp', _⟩ := HR.out.rl 0 h0
    rw [ha] at ha'
    simp only [Option.some.injEq, Addr.mk.injEq, and_true] at ha'
    omega
  have HL := hidP hlog
  have HB5 := hidP b5
  have R1 := hidP r1
  have R2 := hidP r2
  clear hw4 b4 q4 b5 r1 r2 hlog c7 HP
  gi_wp2
  refine wp_range (gf := 78) (lb := #[.pointer (some ⟨w3.heap.size, 0, none⟩)]) rfl (enters_of Try.func78 (by kernel_rfl) rfl) HIt.out (fun _ => rfl) (fun q h => ?hRl)
    (fun pre M V => M = gM w.heap.size k.la ∧ V.heap[w.heap.size + 1]? = some (.cells #[.slice none 0 0, .slice none 0 0] 26) ∧ (∀ q, q < w.heap.size → gM w.heap.size k.la q → V.heap[q]? = w.heap[q]?) ∧ (∀ x ∈ pre, x.2.K ≠ 3))
    (fun c pre M V => c = .ret ∧ (∀ q, gM w.heap.size k.la q → M q) ∧ (∀ q, q < w.heap.size → gM w.heap.size k.la q → V.heap[q]? = w.heap[q]?) ∧ ∃ a1 c1 b1 d1, V.heap[w.heap.size + 1]? = some (.cells #[.slice a1 P.1.length c1, .slice b1 P.2.length d1] 26) ∧ OwnG KI 3 V w.heap.size (.slice a1 P.1.length c1) P.1 ∧ OwnG KI 3 V w.heap.size (.slice b1 P.2.length d1) P.2 ∧ (∀ q, (Value.slice a1 P.1.length c1).ownBlock = some q → (Value.slice b1 P.2.length d1).ownBlock ≠ some q) ∧ (∀ q, (Value.slice a1 P.1.length c1).ownBlock = some q → M q) ∧ (∀ q, (Value.slice b1 P.2.length d1).ownBlock = some q → M q))
    (fun pre M A B h hk => ?hI) (fun c pre M A B h hk => ?hX) (gM w.heap.size k.la) (fun q h => ?hM0) (fun q h hm => ?hRM) ⟨rfl, R2.out, (fun q hq _ => HB5.out.block q hq), fun x hx => by cases hx⟩ ?round ?done ?stop
  case hRl =>
    rcases h with rfl | ⟨h0, o, ha⟩
    · omega
    · have := HL.out h0 q o ha; omega
  case hM0 => rcases h with rfl | h <;> omega
  case hRM =>
    rcases h with rfl | ⟨h0, o, ha⟩
    · rcases hm with h | h <;> omega
    · rcases hm with h | h
      · have := HL.out h0 q o ha; omega
      · exact h.2 o ha
  case hI =>
    obtain ⟨rfl, h1, h2, h3⟩ := h
    exact ⟨rfl, (hk.block _ (lt_heapE h1) (Or.inl rfl)).trans h1, (fun q hq hm => (hk.block q (by have := lt_heapE h1; omega) hm).trans (h2 q hq hm)), h3⟩
  case hX =>
    obtain ⟨rfl, hm, h2, a1, c1, b1, d1, h1, o1, o2, hsp, x1, x2⟩ := h
    exact ⟨rfl, hm, fun q hq hq' => (hk.block q (by have := lt_heapE h1; omega) (hm q hq')).trans (h2 q hq hq'), a1, c1, b1, d1, (hk.block _ (lt_heapE h1) (hm _ (Or.inl rfl))).trans h1, o1.kpt hk x1, o2.kpt hk x2, hsp, x1, x2⟩
  case stop =>
    rintro D c pre M1 V hD hDl hMD hpre ⟨rfl, hm, h2, a1, c1, b1, d1, h1, o1, o2, hsp, x1, x2⟩ hg hK
    have hDr : w.heap.size + 1 ≠ D := by omega
    have k2 := (World.putObj_heap_other (w := V) (o := .deferred none) hDr).trans h1
    have g0 := obj_cell (i := 0) k2 rfl
    have g1 := obj_cell (i := 1) k2 rfl
    have hBV := bel_g HB5.out hg.kept h2
    have HE := hidP (And.intro (o1.kpt (kpt_put V D (.deferred none)) (fun q hq e => hMD (e ▸ x1 q hq))) (And.intro (o2.kpt (kpt_put V D (.deferred none)) (fun q hq e => hMD (e ▸ x2 q hq))) (bel_put (w := w) (D := D) hBV (by omega) (.deferred none))))
    clear h1 h2 k2 hg hBV o1 o2 x1 x2 hm
    gi_wp2
    refine ⟨by simp, .inl ⟨_, _, rfl, run_takeDeferred hK, ?_⟩⟩
    exact ⟨.agg #[.slice a1 P.1.length c1, .slice b1 P.2.length d1], by simp [results, Try.results15, go_sem, g0, g1], ⟨a1, c1, b1, d1, rfl, HE.out.1, HE.out.2.1, hsp⟩, HE.out.2.2⟩
  case done =>
    rintro D M1 V hD hDl hMD ⟨rfl, h1, h2, h3⟩ hg hK
    have HPP := hidP (HGN.out (fnd_none h3))
    clear h3
    have hBV := bel_g HB5.out hg.kept h2
    have k1 := (hg.kept.block w.heap.size (by omega) (by rintro (h | h) <;> omega)).trans R1.out
    have c4 := obj_cell (i := 4) k1 rfl
    have c5 := obj_cell (i := 5) k1 rfl
    have HOw := hidP (ownGroup_any k.ga k.gn k.gc k.ha k.hn k.hc k.ps k.bs V HR.out.hg HR.out.hh (HR.out.later hBV).rg (HR.out.later hBV).rh (by have := HO.out.gs; have := HR.out.hg; omega) (by have := HO.out.gs; have := HR.out.hh; omega))
    have lR := lt_heapE h1
    have HH := hidP (And.intro h1 (And.intro hBV hK))
    clear h1 h2 hBV hg k1 hK
    gi_wp2
    refine ⟨trivial, (callsIn_wide.2 HOw.out).mono ?_⟩
    rintro e' V3 ⟨a1, c1, b1, d1, rfl, o1, o2, osp, hb3⟩
    have HC := hidP (And.intro o1 (And.intro o2 hb3))
    have HSP := hidP osp
    clear osp
    have z3 := hb3.size
    have f1 := (hb3.block _ lR).trans HH.out.1
    obtain ⟨⟨v0, v1⟩, f0, f1'⟩ := of2E f1
    have nD : D ≠ w.heap.size + 1 := fun h => hMD (Or.inl h)
    have HF := hidP f1
    clear o1 o2 hb3 HOw f1
    gi_wp2
    refine ⟨by simp, .inl ⟨_, _, rfl, run_takeDeferred ((set2O nD).trans ((HC.out.2.2.block D hDl).trans HH.out.2.2)), ?_⟩⟩
    have k2 := (World.putObj_heap_other (o := .deferred none) (show w.heap.size + 1 ≠ D by omega)).trans (set2E (a' := .slice a1 k.gn c1) (b' := .slice b1 k.hn d1) HF.out)
    have g0 := obj_cell (i := 0) k2 rfl
    have g1 := obj_cell (i := 1) k2 rfl
    have nk : ∀ q, V.heap.size ≤ q ∧ q < V3.heap.size → q ≠ D := fun q h => by omega
    have HF3 := HC.out.1
    have HF4 := HC.out.2.1
    refine ⟨.agg #[.slice a1 k.gn c1, .slice b1 k.hn d1], by simp [results, Try.results15, go_sem, g0, g1], ?_, ?_⟩
    · rw [HPP.out]
      have e1 : k.ps.length = k.gn := HR.out.hg.symm
      have e2 : k.bs.length = k.hn := HR.out.hh.symm
      refine ⟨a1, c1, b1, d1, by show _ = Ending.returned (.agg #[.slice a1 k.ps.length c1, .slice b1 k.bs.length d1]); rw [e1, e2], ?_, ?_, ?_⟩
      · show OwnG KI 3 _ w.heap.size (.slice a1 k.ps.length c1) k.ps
        rw [e1]
        exact (((own_set2 HC.out.1 lR).kpt (kpt_put _ D (.deferred none)) (fun q hq => nk q (HC.out.1.lt q hq))).mono (by omega))
      · show OwnG KI 3 _ w.heap.size (.slice b1 k.bs.length d1) k.bs
        rw [e2]
        exact (((own_set2 HC.out.2.1 lR).kpt (kpt_put _ D (.deferred none)) (fun q hq => nk q (HC.out.2.1.lt q hq))).mono (by omega))
      · show ∀ q, (Value.slice a1 k.ps.length c1).ownBlock = some q → (Value.slice b1 k.bs.length d1).ownBlock ≠ some q
        rw [e1, e2]
        exact HSP.out
    · exact bel_put (bel_setE (bel_setE (HH.out.2.1.trans (HC.out.2.2.mono (by omega))) _ _ (by show w.heap.size ≤ w.heap.size + 1; omega)) _ _ (by show w.heap.size ≤ w.heap.size + 1; omega)) (by omega) _
  case round =>
    rintro l' pre ⟨i, e⟩ M1 V hIV hf hl' hll hlt hpre
    have hmem : e ∈ k.es := bkF_mem (x := (i, e)) (hpre.subset (by simp))
    have HPre : Hid (∃ rest, bkF k.es k.ln = pre ++ (i, e) :: rest) := by
      obtain ⟨rest, hrest⟩ := hpre
      exact hidP ⟨rest, by rw [← hrest, List.append_assoc]; rfl⟩
    dsimp only [encE]
    refine rnd_of ?_
    intro K' HK'
    have HF0 := hidP hf
    have HMe := hidP hmem
    have HLl := hidP (And.intro hl' hll)
    clear hf hpre hIV hmem hl' hll
    gi_wp2
    refine HK'.out _ _ ⟨(Below.refl _ V).alloc (Nat.le_refl _) _, ?_⟩
    clear HK'
    rintro V2 hk2 hs2 ⟨rfl, h1, h2, h3p⟩
    have H3P := hidP h3p
    clear h3p
    obtain ⟨x0, x1, x2⟩ := box3E V 69 (.int .i64 e.T) (.int .i64 e.K) (.slice e.a e.n e.c)
    have lV : V.heap.size < (V.alloc (.cells #[.int .i64 e.T, .int .i64 e.K, .slice e.a e.n e.c] 69)).heap.size := by simp
    have nV : V.heap.size ≠ l' := by omega
    have y1 := (hk2.cell (p := ⟨V.heap.size, 1, none⟩) lV nV).trans x1
    have y2 := (hk2.cell (p := ⟨V.heap.size, 2, none⟩) lV nV).trans x2
    have hVs : V.heap.size < V2.heap.size := by rw [hs2]; exact lV
    have fit2 : ∀ q, gM w.heap.size k.la q → q < V2.heap.size := fun q h => by have := HF0.out q h; omega
    have lR := lt_heapE h1
    have hD2 : DatR V2 e := (HR.out.dt e HMe.out).of (fun p o ha hp => h2 p hp (Or.inr ⟨hp, HS.out e HMe.out p o ha⟩)) (by omega)
    by_cases h3 : e.K = 3
    · have e3 : (e.K == 3) = true := by simp [h3]
      have hg3 : gB e.zs = true := En.ok_g (ris_ok HO.out.rs HMe.out) h3
      have HGt := hidP (iGet_ex e.a e.n e.c e.zs V2 hD2.1 hD2.2.1 hD2.2.2 hg3)
      have HPe : Hid (P = grZ e.zs) := by
        obtain ⟨rest, hrest⟩ := HPre.out
        exact hidP (HGF.out _ (by rw [hrest]; exact fnd_hit (x := (i, e)) H3P.out h3))
      have HP1 : Hid ((grZ e.zs).1.length = P.1.length ∧ (grZ e.zs).2.length = P.2.length) := hidP (by rw [HPe.out]; exact ⟨rfl, rfl⟩)
      have HH := hidP (And.intro h1 h2)
      clear h1 h2 hk2 x0 x1 x2 hs2 hD2 hg3
      gi_wp2
      refine ⟨trivial, ((callsIn_wide.2 HGt.out).inRound l').mono ?_⟩
      rintro e' V3 ⟨a1, c1, b1, d1, rfl, o1, o2, osp, hb3⟩
      rw [← HPe.out] at o1 o2 osp ⊢
      have HC := hidP (And.intro o1 (And.intro o2 (And.intro osp hb3)))
      have z3 := hb3.size
      have hbW : Below V2.heap.size V2 (V3.alloc (.cells #[.slice a1 P.1.length c1, .slice b1 P.2.length d1] 26)) := hb3.trans ((alloc_below V3 _).mono z3)
      have sW : (V3.alloc (.cells #[.slice a1 P.1.length c1, .slice b1 P.2.length d1] 26)).heap.size = V3.heap.size + 1 := by simp
      have f1 := (hbW.block _ lR).trans HH.out.1
      obtain ⟨⟨v0, v1⟩, f0, f1'⟩ := of2E f1
      have HF := hidP (And.intro f1 (And.intro hbW sW))
      clear o1 o2 osp hb3 HGt f1 hbW sW
      gi_wp2
      obtain ⟨o1, o2, hsp, hb3⟩ := HC.out
      obtain ⟨f1, hbW, sW⟩ := HF.out
      have lR' : w.heap.size + 1 < V2.heap.size := lR
      have G0 : Grw (gM w.heap.size k.la) (fun q => gM w.heap.size k.la q ∨ (V2.heap.size ≤ q ∧ q < V3.heap.size)) V2 (V3.alloc (.cells #[.slice a1 P.1.length c1, .slice b1 P.2.length d1] 26)) :=
        ⟨Kpt.ofBelow _ hbW, fun q h hl => h.elim id (fun h => by omega), fun q h => h.elim (fun h => by have := fit2 q h; omega) (fun h => by omega)⟩
      refine ⟨(fun q => gM w.heap.size k.la q ∨ (V2.heap.size ≤ q ∧ q < V3.heap.size)), ⟨rfl, fun q h => Or.inl h, fun q hq hm => (set2O (by omega)).trans ((hbW.block q (by omega)).trans (HH.out.2 q hq hm)), a1, c1, b1, d1, set2E f1, ?_, ?_, hsp, fun q h => Or.inr (o1.lt q h), fun q h => Or.inr (o2.lt q h)⟩, grw_setE (grw_setE G0 _ _ (Or.inl (Or.inl rfl))) _ _ (Or.inl (Or.inl rfl))⟩
      · exact (own_set2 (o1.alloc _) lR').mono (by omega)
      · exact (own_set2 (o2.alloc _) lR').mono (by omega)
    · have e3 : (e.K == 3) = false := by simp [h3]
      have HH := hidP (And.intro h1 h2)
      clear h1 h2 hk2 x0 x1 x2 hs2 hD2
      gi_wp2
      exact ⟨gM w.heap.size k.la, ⟨rfl, HH.out.1, HH.out.2, fun x hx => by
        rcases List.mem_append.1 hx with hx | hx
        · exact H3P.out x hx
        · rw [List.mem_singleton] at hx; subst hx; exact h3⟩, Grw.refl fit2⟩


end Go.Proofs.Ytamaanbnlnpjcaa
