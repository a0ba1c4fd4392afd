/-
  Marks in a Keep's rows: nothing else changes.
-/
import Derived.Test.YtamaanbnlnpjcaaV15T
import Derived.Test.YtamaanbnlnpjcaaV15G
namespace Go.Proofs.Ytamaanbnlnpjcaa
open Go.ChangeShapes Go.WideShapes Go.ChangeAt Go.RowKit Go.Joins Go.Deep

/-- What lies below B, or from E on, stays. -/
abbrev Out (B E : Nat) : Nat → Prop := fun b => b < B ∨ E ≤ b
theorem kpt_grow {B E : Nat} {X Y : World} {r : Option Nat} (h : X.grownBy Y r) (hr : ∀ q, r = some q → B ≤ q ∧ q < E) : Kpt (Out B E) X Y := ⟨h.os, h.tape, h.output, h.size, fun k hk hm => h.block k hk (fun e => by have := hr k e.symm; rcases hm with hm | hm <;> omega)⟩
theorem kpt_cellO {B E : Nat} (X : World) (g o : Nat) (v : Value) (h1 : B ≤ g) (h2 : g < E) : Kpt (Out B E) X (X.setCell ⟨g, o, none⟩ v) := kpt_grow (grown_cellG X g o v) (fun q hq => by cases hq; exact ⟨h1, h2⟩)
/-- The log's cells from entry i on. -/
structure LgF (W : World) (g i : Nat) (es : List En) : Prop where
  c : ∀ j e, i ≤ j → es[j]? = some e → W.cell? ⟨g, j * 3, none⟩ = some (.int .i64 e.T) ∧ W.cell? ⟨g, j * 3 + 1, none⟩ = some (.int .i64 e.K) ∧ W.cell? ⟨g, j * 3 + 2, none⟩ = some (.slice e.a e.n e.c)
  f : ∀ o, W.frozen? ⟨g, o, none⟩ = false
  l : g < W.heap.size
theorem LgF.grow {W V : World} {g i : Nat} {es : List En} (h : LgF W g i es) {r : Option Nat} (hg : W.grownBy V r) (hr : ∀ q, r = some q → q ≠ g) : LgF V g i es :=
  ⟨fun j e hj he => ⟨cell_grown hg (h.c j e hj he).1 hr, cell_grown hg (h.c j e hj he).2.1 hr, cell_grown hg (h.c j e hj he).2.2 hr⟩, fun o => frz_grown hg h.l (h.f o) hr, Nat.lt_of_lt_of_le h.l hg.size⟩
theorem cell_off {W : World} {g x y : Nat} {u v : Value} (h : W.cell? ⟨g, x, none⟩ = some u) (hne : x ≠ y) : (W.setCell ⟨g, y, none⟩ v).cell? ⟨g, x, none⟩ = some u := by
  simp [go_sem, h]
theorem LgF.set2 {W : World} {g i : Nat} {es : List En} (h : LgF W g i es) (u v : Value) : LgF ((W.setCell ⟨g, i * 3, none⟩ u).setCell ⟨g, i * 3 + 1, none⟩ v) g (i + 1) es :=
  ⟨fun j e hj he => ⟨cell_off (cell_off (h.c j e (by omega) he).1 (by omega)) (by omega), cell_off (cell_off (h.c j e (by omega) he).2.1 (by omega)) (by omega), cell_off (cell_off (h.c j e (by omega) he).2.2 (by omega)) (by omega)⟩, fun o => frz_set1 (frz_set1 (h.f o)), by simpa using h.l⟩
theorem LgF.of {W : World} {g n c B : Nat} {es : List En} (h : OwnG KEn 69 W B (.slice (some ⟨g, 0, none⟩) n c) es) : LgF W g 0 es :=
  ⟨fun j e _ he => by
    obtain ⟨q, _, hq, c0, c1, c2⟩ := rowEn0 h j (by rcases Nat.lt_or_ge j es.length with h1 | h1; exact h1; rw [List.getElem?_eq_none h1] at he; cases he)
    rw [he] at hq
    cases hq
    exact ⟨c0, c1, c2⟩, fun o => h.frozen o, (h.lt g rfl).2⟩
theorem own_setG {α : Type} {K : Kd α} {t : TypeId} {W : World} {B g o : Nat} {v u : Value} {ps : List α} (h : OwnG K t W B v ps) (hne : ∀ q, v.ownBlock = some q → q ≠ g) : OwnG K t (W.setCell ⟨g, o, none⟩ u) B v ps := h.grown (grown_cellG _ _ _ _) (fun q hq e => hne q hq (Option.some.inj e).symm)

set_option maxRecDepth 10000 in
set_option maxHeartbeats 8000000 in
theorem markEntryS_any (a : Option Addr) (n c B E : Nat) (es : List En) (k : Int) (w : World) (hn : n = es.length) (h : OwnG KEn 69 w B (.slice a n c) es)
    (ho : ∀ e ∈ es, (e.n = e.zs.length ∧ OwnG KBy 5 w B (.slice e.a e.n e.c) e.zs) ∧ EnF e ∧ e.n ≤ 1048576) (hp : es.Pairwise (fun e f => e.a ≠ f.a)) (hE : (∀ q, (Value.slice a n c).ownBlock = some q → B ≤ q ∧ q < E) ∧ ∀ e ∈ es, ∀ q, (Value.slice e.a e.n e.c).ownBlock = some q → B ≤ q ∧ q < E) (hl : n ≤ 1048576) (k0 : 0 < k) (k1 : k + (2 * (n : Int) + sumE es) ≤ 9000000) :
    Calls Try.prog 60 #[.slice a n c, .int .i64 k] w fun e w' => e = .returned (.int .i64 (k + (2 * (n : Int) + sumE es))) ∧ Kpt (Out B E) w w' := by
  by_cases h0 : n = 0
  · subst h0
    have hz : es = [] := List.length_eq_zero_iff.1 hn.symm
    subst hz
    have HZ : Hid (k = k + (2 * ((0 : Nat) : Int) + sumE [])) := hidP (by unfold sumE; omega)
    clear h hn ho hp k1
    go_enter Try.func60, Try.ntmps60
    go_wp2
    refine wp_loop_rounds 1 ?_
    rw [rounds_succ]
    go_wp2
    go_ret
    exact ⟨congrArg (fun x => Ending.returned (.int .i64 x)) HZ.out, Kpt.refl _ _⟩
  · obtain ⟨g, rfl⟩ : ∃ g, a = some ⟨g, 0, none⟩ := by
      rcases h.2 with ⟨hv, _⟩ | ⟨g, cap', cur, hv, _⟩
      · simp at hv; omega
      · simp at hv; exact ⟨g, hv.1⟩
    have HL := hidP (LgF.of h)
    have HGl : Hid (B ≤ g ∧ g < E) := hidP (hE.1 g rfl)
    have HSep := hidP (fun e (he : e ∈ es) => sep8 (ho e he).1.2 h (by decide))
    have HB := hidP hE.2
    have HO := hidP (fun e (he : e ∈ es) => (ho e he).1.2)
    have HF := hidP (fun e (he : e ∈ es) => And.intro (ho e he).1.1 (ho e he).2)
    have HP := hidP hp
    have HN := hidP hn
    have HS : Hid (k + 2 * ((n : Int) - ((0 : Nat) : Int)) + sumE (es.drop 0) = k + (2 * (n : Int) + sumE es)) := hidP (by rw [List.drop_zero]; omega)
    have HZ : Hid (k + (2 * (n : Int) + sumE es) ≤ 9000000) := hidP k1
    generalize k + (2 * (n : Int) + sumE es) = Z at *
    have hnn := sumE_nn
    have HNn := hidP hnn
    have hk9 : k ≤ 9000000 := by have h1 := HS.out; have h2 := hnn (es.drop 0); have h3 := HZ.out; omega
    clear h ho hp hn hE k1 hnn
    go_enter Try.func60, Try.ntmps60
    go_wp2
    go_loopw [1, 5] (fun t1 t5 wr => ∃ (i : Nat) (l : Int), i ≤ n ∧ t5 = .int .i64 i ∧ t1 = .int .i64 l ∧ 0 < l ∧ l ≤ 9000000 ∧ (l + 2 * ((n : Int) - (i : Int)) + sumE (es.drop i) = Z) ∧ LgF wr g i es ∧ (∀ e ∈ es.drop i, OwnG KBy 5 wr B (.slice e.a e.n e.c) e.zs) ∧ Kpt (Out B E) w wr) (fun _ t5 _ => n - (intOf t5).toNat)
    case atStart => exact ⟨0, k, Nat.zero_le _, rfl, rfl, k0, hk9, HS.out, HL.out, (fun e he => HO.out e (by simpa using he)), Kpt.refl _ _⟩
    case round =>
      obtain ⟨i, l, hi, rfl, rfl, l0, l1, hs, hL, hO, hK⟩ := hrel
      have HK := hidP hK
      by_cases hlt : i < n
      · obtain ⟨e, he⟩ : ∃ e, es[i]? = some e := ⟨es[i]'(by have := HN.out; omega), List.getElem?_eq_getElem _⟩
        rw [dropE he] at hs hO
        have hs2 : l + 2 * ((n : Int) - (i : Int)) + ((e.n : Int) + sumE (es.drop (i + 1))) = Z := hs
        have hm := List.mem_of_getElem? he
        obtain ⟨c0, c1, c2⟩ := hL.c i e (Nat.le_refl _) he
        have fr := hL.f
        have gl := hL.l
        have ob := hO e (by simp)
        have hq := HSep.out e hm
        have hne : ∀ q, (Value.slice e.a e.n e.c).ownBlock = some q → q ≠ g := fun q h1 h2 => hq q h1 (by rw [h2]; rfl)
        have l2 : l + 1 + 1 ≤ 9000002 := by omega
        have HM := hidP (markByteG e.a e.n e.c B e.zs (l + 1 + 1) ((wr.setCell ⟨g, i * 3, none⟩ (.int .i64 l)).setCell ⟨g, i * 3 + 1, none⟩ (.int .i64 (l + 1))) (HF.out e hm).1 (own_setG (own_setG ob hne) hne) (by have := (HF.out e hm).2.2; omega) (by omega) (by omega))
        have HL2 := hidP (hL.set2 (.int .i64 l) (.int .i64 (l + 1)))
        have d2 := cell_off (v := .int .i64 (l + 1)) (cell_off (v := .int .i64 l) c2 (show i * 3 + 2 ≠ i * 3 by omega)) (show i * 3 + 2 ≠ i * 3 + 1 by omega)
        have HO2 : Hid (∀ f ∈ es.drop (i + 1), OwnG KBy 5 ((wr.setCell ⟨g, i * 3, none⟩ (.int .i64 l)).setCell ⟨g, i * 3 + 1, none⟩ (.int .i64 (l + 1))) B (.slice f.a f.n f.c) f.zs ∧ e.a ≠ f.a) := by
          refine hidP fun f hf => ?_
          have hfm : f ∈ es := List.mem_of_mem_drop hf
          have hnf : ∀ q, (Value.slice f.a f.n f.c).ownBlock = some q → q ≠ g := fun q h1 h2 => HSep.out f hfm q h1 (by rw [h2]; rfl)
          refine ⟨own_setG (own_setG (hO f (List.mem_cons_of_mem _ hf)) hnf) hnf, ?_⟩
          have h9 := HP.out
          rw [← List.take_append_drop i es, dropE he] at h9
          exact (List.pairwise_cons.1 (List.pairwise_append.1 h9).2.1).1 f hf
        have HX := hidP (And.intro hs2 (And.intro hne hm))
        have i0 : (0 : Int) ≤ (i : Int) := by omega
        have i1 : (i : Int) < (n : Int) := by omega
        clear hs hs2 hL hO hK he hm ob hq hne c2
        go_wp2_with fail
        refine HM.out.mono ?_
        rintro x w3 ⟨rfl, -, hg3⟩
        have HG3 := hidP hg3
        clear hg3 HM
        go_wp2_with fail
        go_roundw
        case rel =>
          refine ⟨i + 1, l + 1 + 1 + (e.n : Int), by omega, by go_num, rfl, by omega, ?_, ?_, ?_, ?_, ?_⟩
          · have h1 := HX.out.1; have h2 := HNn.out (es.drop (i + 1)); have h3 := HZ.out; omega
          · have h1 := HX.out.1; push_cast; omega
          · exact HL2.out.grow HG3.out (fun q hq => HX.out.2.1 q hq)
          · intro f hf
            refine (HO2.out f hf).1.grown HG3.out (fun q hq he9 => ?_)
            obtain ⟨g1, hg1⟩ := (HF.out e HX.out.2.2).2.1.1
            obtain ⟨g2, hg2⟩ := (HF.out f (List.mem_of_mem_drop hf)).2.1.1
            have h9 := (HO2.out f hf).2
            rw [hg1, hg2] at h9
            rw [hg2] at hq
            rw [hg1] at he9
            have e1 : g2 = q := Option.some.inj hq
            have e2 : g1 = q := Option.some.inj he9
            exact h9 (by rw [e1, e2])
          · refine ((HK.out.trans (kpt_cellO _ g _ _ HGl.out.1 HGl.out.2)).trans (kpt_cellO _ g _ _ HGl.out.1 HGl.out.2)).trans (kpt_grow HG3.out (fun q hq => ?_))
            exact HB.out e HX.out.2.2 q hq
        case measure => simp [intOf]; omega
      · have hin : n = i := by omega
        subst hin
        rw [List.drop_of_length_le (by have := HN.out; omega)] at hs
        have HX : Hid (l = Z) := hidP (by unfold sumE at hs; omega)
        clear hs hL hO hK
        go_wp2
        go_ret
        exact ⟨congrArg (fun x => Ending.returned (.int .i64 x)) HX.out, HK.out⟩

set_option maxRecDepth 10000 in
set_option maxHeartbeats 8000000 in
theorem markKeep_any (k : Kv) (ss : List Int) (Bd : Nat) (X w : World) (h : KvO X Bd k ss) (hd : KvD k) (hb : Below X.heap.size X w) (hs : KvS k) (ht : totK k ≤ 1048576) :
    Calls Try.prog 24 #[k.v, .int .i64 1] w fun e w' => (∃ z, e = .returned (.int .i64 z) ∧ 0 < z ∧ z ≤ 9000000) ∧ Kpt (Out Bd X.heap.size) w w' := by
  have HW := hidP (h.later hb)
  have HXl := hidP h
  have HD := hidP hd
  have HS := hidP hs
  have HT : Hid (((k.gn : Int) + (k.hn : Int)) + ((k.sn : Int) + ((k.ln : Int) + sumE k.es)) ≤ 1048576) := hidP ht
  have HNn := hidP (sumE_nn k.es)
  have HXw := hidP hb.size
  clear h hd hb hs ht
  obtain ⟨T, V, B, E, ga, gn, gc, ha, hn, hc, sa, sn, sc, la, ln, lc, ps, bs, es⟩ := k
  simp only at HT HNn
  go_enter Try.func24, Try.ntmps24
  go_wp2_with fail
  obtain ⟨b0, b1, b2, b3, b4, b5, b6, b7⟩ := box8K w 29 (.int .i64 T) (.int .i64 V) (.int .i64 B) (.int .i64 E) (.slice ga gn gc) (.slice ha hn hc) (.slice sa sn sc) (.slice la ln lc)
  have bB := alloc_below w (.cells #[.int .i64 T, .int .i64 V, .int .i64 B, .int .i64 E, .slice ga gn gc, .slice ha hn hc, .slice sa sn sc, .slice la ln lc] 29)
  have bL : w.heap.size < (w.alloc (.cells #[.int .i64 T, .int .i64 V, .int .i64 B, .int .i64 E, .slice ga gn gc, .slice ha hn hc, .slice sa sn sc, .slice la ln lc] 29)).heap.size := by simp
  have HK1 := hidP (Kpt.ofBelow (Out Bd X.heap.size) bB)
  have HW1 := hidP (HW.out.later bB)
  generalize w.alloc (.cells #[.int .i64 T, .int .i64 V, .int .i64 B, .int .i64 E, .slice ga gn gc, .slice ha hn hc, .slice sa sn sc, .slice la ln lc] 29) = W1 at *
  clear bB b0 b1 b2 b3 b4 b5
  have hwX : X.heap.size ≤ w.heap.size := HXw.out
  have hog := HXl.out.og.lt
  have hoh := HXl.out.oh.lt
  have hos := HXl.out.os.lt
  have hol := HXl.out.ol.lt
  simp only at hog hoh hos hol
  have HLt := hidP (And.intro hog (And.intro hoh (And.intro hos hol)))
  clear hog hoh hos hol
  refine (markGroup_any ga gn gc ha hn hc ps bs Bd 1 W1 HW1.out.hg HW1.out.hh HW1.out.og HW1.out.oh ?_ (by have := HS.out.hg; simp only at this; omega) (by have := HS.out.hh; simp only at this; omega) (by omega) (by omega)).mono ?_
  · intro q h1 h2
    have h9 := HD.out.gh
    simp only at h9
    rcases HW1.out.og.2 with ⟨hv, _⟩ | ⟨p1, c1, _, hv, _⟩
    · rw [show (Kv.gc ⟨T, V, B, E, ga, gn, gc, ha, hn, hc, sa, sn, sc, la, ln, lc, ps, bs, es⟩) = gc from rfl] at hv
      rw [hv] at h1; cases h1
    · rcases HW1.out.oh.2 with ⟨hv2, _⟩ | ⟨p2, c2, _, hv2, _⟩
      · have hv3 : Value.slice ha hn hc = _ := hv2
        rw [hv3] at h2; cases h2
      · have hv0 : Value.slice ga gn gc = _ := hv
        have hv3 : Value.slice ha hn hc = _ := hv2
        rw [hv0] at h1
        rw [hv3] at h2
        have e1 : p1 = q := Option.some.inj h1
        have e2 : p2 = q := Option.some.inj h2
        simp only [Value.slice.injEq] at hv0 hv3
        exact h9 (by rw [hv0.1, hv3.1, e1, e2])
  rintro e w2 ⟨rfl, -, -, wm, g1, g2⟩
  have K1 : Kpt (Out Bd X.heap.size) W1 wm := kpt_grow g1 (fun q hq => HLt.out.1 q hq)
  have K2 : Kpt (Out Bd X.heap.size) wm w2 := kpt_grow g2 (fun q hq => HLt.out.2.1 q hq)
  have hbx : Out Bd X.heap.size w.heap.size := Or.inr hwX
  have d6 : w2.cell? ⟨w.heap.size, 6, none⟩ = some (.slice sa sn sc) := ((K1.trans K2).cell (p := ⟨w.heap.size, 6, none⟩) bL hbx).trans b6
  have d7 : w2.cell? ⟨w.heap.size, 7, none⟩ = some (.slice la ln lc) := ((K1.trans K2).cell (p := ⟨w.heap.size, 7, none⟩) bL hbx).trans b7
  have dL : w.heap.size < w2.heap.size := Nat.lt_of_lt_of_le bL (K1.trans K2).size
  have HO2 : Hid (OwnG KBy 5 w2 Bd (.slice sa sn sc) ss ∧ OwnG KEn 69 w2 Bd (.slice la ln lc) es ∧ ∀ e ∈ es, OwnG KBy 5 w2 Bd (.slice e.a e.n e.c) e.zs) := by
    have og := HW1.out.og
    have oh := HW1.out.oh
    have os := HW1.out.os
    have ol := HW1.out.ol
    have oe := HW1.out.oe
    simp only at og oh os ol oe
    refine hidP ⟨(os.grown g1 (fun q h1 h2 => sep8 os og (by decide) q h1 h2)).grown g2 (fun q h1 h2 => sep8 os oh (by decide) q h1 h2), (ol.grown g1 (fun q h1 h2 => sep8 ol og (by decide) q h1 h2)).grown g2 (fun q h1 h2 => sep8 ol oh (by decide) q h1 h2), fun e he => ((oe e he).1.2.2.grown g1 (fun q h1 h2 => sep8 (oe e he).1.2.2 og (by decide) q h1 h2)).grown g2 (fun q h1 h2 => sep8 (oe e he).1.2.2 oh (by decide) q h1 h2)⟩
  have HK2 := hidP (HK1.out.trans (K1.trans K2))
  clear K1 K2 g1 g2 b6 b7 bL HK1
  go_wp2_with fail
  refine (markByteG sa sn sc Bd ss (1 + (gn : Int) + (hn : Int)) w2 HW1.out.hs HO2.out.1 (by have := HS.out.hs; simp only at this; omega) (by omega) (by have h1 := HT.out; have h2 := HNn.out; omega)).mono ?_
  rintro e w3 ⟨rfl, -, g3⟩
  have K3 : Kpt (Out Bd X.heap.size) w2 w3 := kpt_grow g3 (fun q hq => HLt.out.2.2.1 q hq)
  have e7 : w3.cell? ⟨w.heap.size, 7, none⟩ = some (.slice la ln lc) := (K3.cell (p := ⟨w.heap.size, 7, none⟩) dL hbx).trans d7
  have HO3 : Hid (OwnG KEn 69 w3 Bd (.slice la ln lc) es ∧ ∀ e ∈ es, OwnG KBy 5 w3 Bd (.slice e.a e.n e.c) e.zs) := by
    refine hidP ⟨HO2.out.2.1.grown g3 (fun q h1 h2 => sep8 HO2.out.2.1 HO2.out.1 (by decide) q h1 h2), fun e he => (HO2.out.2.2 e he).grown g3 (fun q h1 h2 => ?_)⟩
    have h9 := HD.out.es e he
    simp only at h9
    rcases (HO2.out.2.2 e he).2 with ⟨hv, _⟩ | ⟨p1, c1, _, hv, _⟩
    · rw [hv] at h1; cases h1
    · rcases HO2.out.1.2 with ⟨hv2, _⟩ | ⟨p2, c2, _, hv2, _⟩
      · rw [hv2] at h2; cases h2
      · rw [hv] at h1
        rw [hv2] at h2
        have e1 : p1 = q := Option.some.inj h1
        have e2 : p2 = q := Option.some.inj h2
        simp only [Value.slice.injEq] at hv hv2
        exact h9 (by rw [hv.1, hv2.1, e1, e2])
  have HK3 := hidP (HK2.out.trans K3)
  have hX3 : Hid (∀ e ∈ es, ∀ q, (Value.slice e.a e.n e.c).ownBlock = some q → Bd ≤ q ∧ q < X.heap.size) := hidP (fun e he q hq => (HXl.out.oe e he).1.2.2.lt q hq)
  clear K3 g3 d6 d7 HK2
  have HM : Hid (Calls Try.prog 60 #[.slice la ln lc, .int .i64 (1 + (gn : Int) + (hn : Int) + (sn : Int))] w3 fun e w' => e = .returned (.int .i64 (1 + (gn : Int) + (hn : Int) + (sn : Int) + (2 * (ln : Int) + sumE es))) ∧ Kpt (Out Bd X.heap.size) w3 w') := by
    refine hidP (markEntryS_any la ln lc Bd X.heap.size es _ w3 HW1.out.hl HO3.out.1 (fun e he => ⟨⟨(HW1.out.oe e he).1.1, HO3.out.2 e he⟩, (HW1.out.oe e he).2, HS.out.hz e he⟩) HD.out.pw ?_ (HS.out.hl) (by omega) (by have h1 := HT.out; have h2 := HNn.out; omega))
    exact ⟨HLt.out.2.2.2, hX3.out⟩
  go_wp2_with fail
  refine HM.out.mono ?_
  rintro e w4 ⟨rfl, K4⟩
  have HK4 := hidP (HK3.out.trans K4)
  clear K4
  go_wp2_with fail
  go_ret
  exact ⟨⟨_, rfl, by have h1 := HT.out; have h2 := HNn.out; omega, by have h1 := HT.out; have h2 := HNn.out; omega⟩, HK4.out⟩

end Go.Proofs.Ytamaanbnlnpjcaa
