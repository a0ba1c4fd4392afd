/-
  A Keep that came in: the laws' copies of it, looks at it, its size.
-/
import Derived.Test.YtamaanbnlnpjcaaV14X
import Derived.Test.YtamaanbnlnpjcaaV13KN
namespace Go.Proofs.Ytamaanbnlnpjcaa
open Go.ChangeShapes Go.WideShapes Go.ChangeAt Go.RowKit Go.Joins Go.Deep

set_option maxHeartbeats 1000000 in
theorem szGroup_at (ap : Option Addr) (np cp : Nat) (ab : Option Addr) (nb cb : Nat) (L : Int) (h0 : 0 ≤ L) (h1 : L ≤ 1048576) (w : World) (h9 : np ≤ 9223372036854775807) (h9' : nb ≤ 9223372036854775807) :
    Calls Try.prog 44 #[.agg #[.slice ap np cp, .slice ab nb cb], .int .i64 L] w fun e w' => e = .returned (.int .i64 (szR L ((np : Int) + (nb : Int)))) ∧ Below w.heap.size w w' := by
  by_cases hl : (np : Int) ≤ L
  · have HP := hidP (szIntS_any ap np cp L hl h1)
    have hz0 : ¬ (L - (np : Int) < 0) := by omega
    have hz1 : decide (L - (np : Int) < 0) = false := decide_eq_false hz0
    by_cases ht : (nb : Int) ≤ L - np
    · have HBk := hidP (szIntS_any ab nb cb (L - np) ht (by omega))
      rw [szR_yes (by omega)]
      have hz2 : decide (L - (np : Int) - (nb : Int) < 0) = false := decide_eq_false (by omega)
      have HE : Hid (L - (np : Int) - (nb : Int) = L - ((np : Int) + (nb : Int))) := hidP (by omega)
      generalize (L - (np : Int) - (nb : Int)) = z at *
      have hz3 : ¬ z < 0 := by simpa using hz2
      go_enter Try.func44, Try.ntmps44
      go_wp2_with fail
      refine (HP.out _).mono ?_
      rintro e w1 ⟨rfl, rfl⟩
      go_wp2_with fail
      refine (HBk.out _).mono ?_
      rintro e w2 ⟨rfl, rfl⟩
      go_wp2_with fail
      go_ret
      exact ⟨ret_i HE.out, alloc_below w _⟩
    · have HBk := hidP (szIntS_big ab nb cb (L - np) (by omega) (by omega) h9')
      rw [szR_no (by omega)]
      go_enter Try.func44, Try.ntmps44
      go_wp2_with fail
      refine (HP.out _).mono ?_
      rintro e w1 ⟨rfl, rfl⟩
      go_wp2_with fail
      refine (HBk.out _).mono ?_
      rintro e w2 ⟨rfl, rfl⟩
      go_wp2_with fail
      go_ret
      exact ⟨rfl, alloc_below w _⟩
  · have HP := hidP (szIntS_big ap np cp L (by omega) (by omega) h9)
    rw [szR_no (by omega)]
    go_enter Try.func44, Try.ntmps44
    go_wp2_with fail
    refine (HP.out _).mono ?_
    rintro e w1 ⟨rfl, rfl⟩
    go_wp2_with fail
    go_ret
    exact ⟨rfl, alloc_below w _⟩

/-- It can be read, all of it. -/
structure KvF (w : World) (k : Kv) (ss : List Int) : Prop where
  r : KvR w k
  hs : k.sn = ss.length
  os : Oct ss
  rs : RowG KBy w k.sa ss
theorem KvF.later {w w' : World} {k : Kv} {ss : List Int} (h : KvF w k ss) (hb : Below w.heap.size w w') : KvF w' k ss := ⟨h.r.later hb, h.hs, h.os, h.rs.later hb⟩
/-- It is not too long. -/
structure KvS (k : Kv) : Prop where
  hg : k.gn ≤ 1048576
  hh : k.hn ≤ 1048576
  hs : k.sn ≤ 1048576
  hl : k.ln ≤ 1048576
  hz : ∀ e ∈ k.es, e.n ≤ 1048576
/-- The same Keep, elsewhere. -/
structure KvE (m k : Kv) : Prop where
  T : k.T = m.T
  V : k.V = m.V
  B : k.B = m.B
  E : k.E = m.E
  gn : k.gn = m.gn
  hn : k.hn = m.hn
  sn : k.sn = m.sn
  ln : k.ln = m.ln
  ps : k.ps = m.ps
  bs : k.bs = m.bs
  es : k.es.map En.key = m.es.map En.key
theorem KvE.comp {m k l : Kv} (h : KvE m k) (g : KvE m l) : KvE k l := ⟨g.T.trans h.T.symm, g.V.trans h.V.symm, g.B.trans h.B.symm, g.E.trans h.E.symm, g.gn.trans h.gn.symm, g.hn.trans h.hn.symm, g.sn.trans h.sn.symm, g.ln.trans h.ln.symm, g.ps.trans h.ps.symm, g.bs.trans h.bs.symm, g.es.trans h.es.symm⟩
theorem KvE.s {m k : Kv} (h : KvE m k) (hs : KvS m) : KvS k := by
  refine ⟨by rw [h.gn]; exact hs.hg, by rw [h.hn]; exact hs.hh, by rw [h.sn]; exact hs.hs, by rw [h.ln]; exact hs.hl, fun e he => ?_⟩
  have h1 : e.key ∈ k.es.map En.key := List.mem_map.2 ⟨e, he, rfl⟩
  rw [h.es] at h1
  obtain ⟨f, hf, hk⟩ := List.mem_map.1 h1
  have : e.n = f.n := congrArg (fun x => x.2.2.1) hk.symm
  rw [this]
  exact hs.hz f hf
/-- Its rows are one's own. -/
structure KvO (w : World) (D : Nat) (k : Kv) (ss : List Int) : Prop where
  hg : k.gn = k.ps.length
  hh : k.hn = k.bs.length
  hs : k.sn = ss.length
  hl : k.ln = k.es.length
  ot : Oct ss
  og : OwnG KI 3 w D (.slice k.ga k.gn k.gc) k.ps
  oh : OwnG KI 3 w D (.slice k.ha k.hn k.hc) k.bs
  os : OwnG KBy 5 w D (.slice k.sa k.sn k.sc) ss
  ol : OwnG KEn 69 w D (.slice k.la k.ln k.lc) k.es
  oe : ∀ e ∈ k.es, (e.n = e.zs.length ∧ Oct e.zs ∧ OwnG KBy 5 w D (.slice e.a e.n e.c) e.zs) ∧ EnF e
theorem KvO.later {w w' : World} {D : Nat} {k : Kv} {ss : List Int} (h : KvO w D k ss) (hb : Below w.heap.size w w') : KvO w' D k ss := ⟨h.hg, h.hh, h.hs, h.hl, h.ot, h.og.later hb, h.oh.later hb, h.os.later hb, h.ol.later hb, fun e he => ⟨⟨(h.oe e he).1.1, (h.oe e he).1.2.1, (h.oe e he).1.2.2.later hb⟩, (h.oe e he).2⟩⟩
theorem KvO.mono {w : World} {D C : Nat} {k : Kv} {ss : List Int} (h : KvO w D k ss) (hb : C ≤ D) : KvO w C k ss := ⟨h.hg, h.hh, h.hs, h.hl, h.ot, h.og.mono hb, h.oh.mono hb, h.os.mono hb, h.ol.mono hb, fun e he => ⟨⟨(h.oe e he).1.1, (h.oe e he).1.2.1, (h.oe e he).1.2.2.mono hb⟩, (h.oe e he).2⟩⟩
theorem KvO.f {w : World} {D : Nat} {k : Kv} {ss : List Int} (h : KvO w D k ss) : KvF w k ss := ⟨⟨h.hg, h.hh, h.hl, h.og.row, h.oh.row, h.ol.row, fun e he => ⟨(h.oe e he).1.1, (h.oe e he).1.2.1, (h.oe e he).1.2.2.row⟩⟩, h.hs, h.ot, h.os.row⟩
/-- All that it holds. -/
def totK (k : Kv) : Int := ((k.gn : Int) + (k.hn : Int)) + ((k.sn : Int) + ((k.ln : Int) + sumE k.es))
theorem sumE_mem : ∀ {es : List En} {e : En}, e ∈ es → (e.n : Int) ≤ sumE es
  | x :: t, e, h => by
      have h0 := sumE_nn t
      show (e.n : Int) ≤ x.n + sumE t
      rcases List.mem_cons.1 h with rfl | h
      · omega
      · have := sumE_mem h
        omega
theorem KvS.of {k : Kv} (h : totK k ≤ 1048576) : KvS k := by
  have h0 := sumE_nn k.es
  unfold totK at h
  exact ⟨by omega, by omega, by omega, by omega, fun e he => by have := sumE_mem he; omega⟩
/-- No length passes what an int holds. -/
structure KvL (k : Kv) : Prop where
  hg : k.gn ≤ 9223372036854775807
  hh : k.hn ≤ 9223372036854775807
  hs : k.sn ≤ 9223372036854775807
  hl : k.ln ≤ 9223372036854775807
  hz : ∀ e ∈ k.es, e.n ≤ 9223372036854775807

set_option maxRecDepth 10000 in
set_option maxHeartbeats 4000000 in
theorem szKeep_any (k : Kv) (w : World) (hr : KvR w k) (hx : KvL k) :
    Calls Try.prog 16 #[k.v, .int .i64 1048576] w fun e w' => e = .returned (.int .i64 (szR 1048576 (totK k))) ∧ Below w.heap.size w w' := by
  have HG := hidP (fun W => szGroup_at k.ga k.gn k.gc k.ha k.hn k.hc 1048576 (by omega) (by omega) W hx.hg hx.hh)
  have s1 := sumE_nn k.es
  unfold totK
  rw [szR_step (by omega)]
  have HH := hidP (And.intro hr.hl hr.rl)
  have HX := hidP hx
  clear hr hx
  obtain ⟨T, V, B, E, ga, gn, gc, ha, hn, hc, sa, sn, sc, la, ln, lc, ps, bs, es⟩ := k
  simp only at HG s1 HH
  dsimp only
  by_cases ht : ((gn : Int) + (hn : Int)) ≤ 1048576
  · rw [szR_yes ht] at HG
    rw [if_pos ht]
    generalize hM : (1048576 - ((gn : Int) + (hn : Int))) = M1 at *
    have m0 : 0 ≤ M1 := by omega
    have m1 : M1 ≤ 1048576 := by omega
    clear hM ht
    have HD := hidP (fun W => szByteS_at sa sn sc M1 m0 m1 W HX.out.hs)
    have d1 : decide (M1 < 0) = false := decide_eq_false (by omega)
    have d2 : ¬ (M1 < 0) := by omega
    rw [szR_step (by omega)]
    by_cases hu : (sn : Int) ≤ M1
    · rw [szR_yes hu] at HD
      rw [if_pos hu]
      generalize hM : (M1 - (sn : Int)) = M2 at *
      have n0 : 0 ≤ M2 := by omega
      have n1 : M2 ≤ 1048576 := by omega
      have HE := hidP (fun W (hb : Below w.heap.size w W) => szEntryS_at la ln lc es M2 n0 n1 W HH.out.1 (HH.out.2.later hb) HX.out.hl HX.out.hz)
      have d3 : decide (M2 < 0) = false := decide_eq_false (by omega)
      have d4 : ¬ (M2 < 0) := by omega
      clear HX HH
      by_cases hv : (ln : Int) + sumE es ≤ M2
      · rw [szR_yes hv] at HE ⊢
        generalize hM3 : (M2 - ((ln : Int) + sumE es)) = M3 at *
        have d5 : decide (M3 < 0) = false := decide_eq_false (by omega)
        have d6 : ¬ (M3 < 0) := by omega
        clear hM hM3 hu hv m0 m1 n0 n1 s1
        go_enter Try.func16, Try.ntmps16
        go_wp2_with fail
        refine (HG.out _).mono ?_
        rintro e w1 ⟨rfl, hb1⟩
        have q1 := alloc_below w (.cells #[.int .i64 T, .int .i64 V, .int .i64 B, .int .i64 E, .slice ga gn gc, .slice ha hn hc, .slice sa sn sc, .slice la ln lc] 42)
        have HB1 := hidP (q1.trans (hb1.mono q1.size))
        have f1 : w.heap.size < w1.heap.size := by have := hb1.size; simp at this; omega
        refine olds_k (w.heap.size + 1) hb1 (by simp) ?_
        intro hc1 hf1
        clear hb1 q1
        go_wp2_with fail
        refine (HD.out _).mono ?_
        rintro e w2 ⟨rfl, hb2⟩
        have HB2 := hidP (HB1.out.trans (hb2.mono HB1.out.size))
        have f2 : w.heap.size < w2.heap.size := by have := hb2.size; omega
        refine olds_k (w.heap.size + 1) hb2 (by omega) ?_
        intro hc2 hf2
        clear hb2
        go_wp2_with fail
        refine (HE.out _ HB2.out).mono ?_
        rintro e w3 ⟨rfl, hb3⟩
        have HB3 := hidP (HB2.out.trans (hb3.mono HB2.out.size))
        clear hb3
        go_wp2_with fail
        go_ret
        exact ⟨rfl, HB3.out⟩
      · rw [szR_no hv] at HE ⊢
        clear hM hu hv m0 m1 n0 n1 s1
        go_enter Try.func16, Try.ntmps16
        go_wp2_with fail
        refine (HG.out _).mono ?_
        rintro e w1 ⟨rfl, hb1⟩
        have q1 := alloc_below w (.cells #[.int .i64 T, .int .i64 V, .int .i64 B, .int .i64 E, .slice ga gn gc, .slice ha hn hc, .slice sa sn sc, .slice la ln lc] 42)
        have HB1 := hidP (q1.trans (hb1.mono q1.size))
        have f1 : w.heap.size < w1.heap.size := by have := hb1.size; simp at this; omega
        refine olds_k (w.heap.size + 1) hb1 (by simp) ?_
        intro hc1 hf1
        clear hb1 q1
        go_wp2_with fail
        refine (HD.out _).mono ?_
        rintro e w2 ⟨rfl, hb2⟩
        have HB2 := hidP (HB1.out.trans (hb2.mono HB1.out.size))
        have f2 : w.heap.size < w2.heap.size := by have := hb2.size; omega
        refine olds_k (w.heap.size + 1) hb2 (by omega) ?_
        intro hc2 hf2
        clear hb2
        go_wp2_with fail
        refine (HE.out _ HB2.out).mono ?_
        rintro e w3 ⟨rfl, hb3⟩
        have HB3 := hidP (HB2.out.trans (hb3.mono HB2.out.size))
        clear hb3
        go_wp2_with fail
        go_ret
        exact ⟨rfl, HB3.out⟩
    · rw [szR_no hu] at HD
      rw [if_neg hu]
      clear hu m0 m1 s1 HX HH
      go_enter Try.func16, Try.ntmps16
      go_wp2_with fail
      refine (HG.out _).mono ?_
      rintro e w1 ⟨rfl, hb1⟩
      have q1 := alloc_below w (.cells #[.int .i64 T, .int .i64 V, .int .i64 B, .int .i64 E, .slice ga gn gc, .slice ha hn hc, .slice sa sn sc, .slice la ln lc] 42)
      have HB1 := hidP (q1.trans (hb1.mono q1.size))
      have f1 : w.heap.size < w1.heap.size := by have := hb1.size; simp at this; omega
      refine olds_k (w.heap.size + 1) hb1 (by simp) ?_
      intro hc1 hf1
      clear hb1 q1
      go_wp2_with fail
      refine (HD.out _).mono ?_
      rintro e w2 ⟨rfl, hb2⟩
      have HB2 := hidP (HB1.out.trans (hb2.mono HB1.out.size))
      have f2 : w.heap.size < w2.heap.size := by have := hb2.size; omega
      clear hb2
      go_wp2_with fail
      go_ret
      exact ⟨rfl, HB2.out⟩
  · rw [szR_no ht] at HG
    rw [if_neg ht]
    clear ht s1 HX HH
    go_enter Try.func16, Try.ntmps16
    go_wp2_with fail
    refine (HG.out _).mono ?_
    rintro e w1 ⟨rfl, hb1⟩
    have q1 := alloc_below w (.cells #[.int .i64 T, .int .i64 V, .int .i64 B, .int .i64 E, .slice ga gn gc, .slice ha hn hc, .slice sa sn sc, .slice la ln lc] 42)
    have HB1 := hidP (q1.trans (hb1.mono q1.size))
    have f1 : w.heap.size < w1.heap.size := by have := hb1.size; simp at this; omega
    clear hb1 q1
    go_wp2_with fail
    go_ret
    exact ⟨rfl, HB1.out⟩

set_option maxRecDepth 10000 in
set_option maxHeartbeats 8000000 in
theorem toKeep_any (k : Kv) (ss : List Int) (w : World) (hr : KvF w k ss) (hs : KvS k) :
    Calls Try.prog 18 #[k.v] w fun e w' => ∃ q : Kv, e = .returned q.v ∧ KvE k q ∧ KvO w' w.heap.size q ss ∧ Below w.heap.size w w' := by
  have HE := hidP (fun W (hb : Below w.heap.size w W) => toEntryS_any k.la k.ln k.lc k.es W hr.r.hl (hr.r.rl.later hb) (fun e he => (hr.r.dt e he).later hb) hs.hl hs.hz)
  have HD := hidP (fun W (hb : Below w.heap.size w W) => toByteG k.sa k.sn k.sc ss W hr.hs (hr.rs.later hb) hs.hs)
  have HG := hidP (fun W (hb : Below w.heap.size w W) => toGroup_any k.ga k.gn k.gc k.ha k.hn k.hc k.ps k.bs W hr.r.hg hr.r.hh (hr.r.rg.later hb) (hr.r.rh.later hb) hs.hg hs.hh)
  have HL := hidP (And.intro hr.r.hg (And.intro hr.r.hh (And.intro hr.hs hr.os)))
  clear hr hs
  obtain ⟨T, V, B, E, ga, gn, gc, ha, hn, hc, sa, sn, sc, la, ln, lc, ps, bs, es⟩ := k
  simp only at HE HD HG HL
  go_enter Try.func18, Try.ntmps18
  go_wp2_with fail
  refine (HG.out _ ?_).mono ?_
  · repeat (first | with_reducible exact Below.refl _ _ | (with_reducible refine Below.drew ?_) | (with_reducible refine Below.alloc ?_ ?_ _; rotate_left; (focus (first | omega | (simp; omega) | (simp; done)))) | (with_reducible refine Below.setCell ?_ ?_ _; rotate_left; (focus (first | omega | (simp; omega) | (simp; done)))))
  rintro e w1 ⟨x, y, rfl, ox, oy, hxy, hb1⟩
  have hz1 := hb1.size
  try simp at hz1
  have f10 : w.heap.size < w1.heap.size := by omega
  have f11 : w.heap.size + 1 < w1.heap.size := by omega
  have f12 : w.heap.size + 2 < w1.heap.size := by omega
  have OX : Hid (OwnG KI 3 w1 (w.heap.size + 3) (.slice (some ⟨x, 0, none⟩) gn gn) ps ∧ OwnG KI 3 w1 (w.heap.size + 3) (.slice (some ⟨y, 0, none⟩) hn hn) bs) := hidP ⟨ox.mono (by simp), oy.mono (by simp)⟩
  refine olds_k (w.heap.size + 3) hb1 ?_ ?_
  · first | omega | (simp; omega) | (simp; done)
  intro hc1 hf1
  clear ox oy hxy
  go_wp2_with fail
  refine (HD.out _ ?_).mono ?_
  · repeat (first | with_reducible exact Below.refl _ _ | (with_reducible refine Below.drew ?_) | (with_reducible refine Below.alloc ?_ ?_ _; rotate_left; (focus (first | omega | (simp; omega) | (simp; done)))) | (with_reducible refine Below.setCell ?_ ?_ _; rotate_left; (focus (first | omega | (simp; omega) | (simp; done)))) | (with_reducible refine Below.trans ?_ (hb1.mono ?_); rotate_left; (focus (first | omega | (simp; omega) | (simp; done)))))
  rintro e w2 ⟨d, rfl, od, hb2⟩
  have hz2 := hb2.size
  try simp at hz2
  have f20 : w.heap.size < w2.heap.size := by omega
  have f21 : w.heap.size + 1 < w2.heap.size := by omega
  have f22 : w.heap.size + 2 < w2.heap.size := by omega
  have OD : Hid (OwnG KBy 5 w2 (w.heap.size + 3) (.slice (some ⟨d, 0, none⟩) sn sn) ss) := hidP (od.mono (by simp; omega))
  refine olds_k (w.heap.size + 3) hb2 ?_ ?_
  · first | omega | (simp; omega) | (simp; done)
  intro hc2 hf2
  clear od
  go_wp2_with fail
  refine (HE.out _ ?_).mono ?_
  · repeat (first | with_reducible exact Below.refl _ _ | (with_reducible refine Below.drew ?_) | (with_reducible refine Below.alloc ?_ ?_ _; rotate_left; (focus (first | omega | (simp; omega) | (simp; done)))) | (with_reducible refine Below.setCell ?_ ?_ _; rotate_left; (focus (first | omega | (simp; omega) | (simp; done)))) | (with_reducible refine Below.trans ?_ (hb2.mono ?_); rotate_left; (focus (first | omega | (simp; omega) | (simp; done)))) | (with_reducible refine Below.trans ?_ (hb1.mono ?_); rotate_left; (focus (first | omega | (simp; omega) | (simp; done)))))
  rintro e w3 ⟨g, fs, rfl, hfl, hfk, og, oe, hb3⟩
  have hz3 := hb3.size
  try simp at hz3
  have f30 : w.heap.size < w3.heap.size := by omega
  have f31 : w.heap.size + 1 < w3.heap.size := by omega
  have f32 : w.heap.size + 2 < w3.heap.size := by omega
  have OG : Hid (OwnG KEn 69 w3 (w.heap.size + 3) (.slice (some ⟨g, 0, none⟩) ln ln) fs ∧ (∀ e ∈ fs, EnO w3 (w.heap.size + 3) g e ∧ EnF e) ∧ ln = fs.length ∧ fs.map En.key = es.map En.key) := hidP ⟨og.mono (by simp; omega), fun e he => ⟨⟨(oe e he).1.hn, (oe e he).1.ho, (oe e he).1.own.mono (by simp; omega), (oe e he).1.ne⟩, (oe e he).2⟩, hfl, hfk⟩
  refine olds_k (w.heap.size + 3) hb3 ?_ ?_
  · first | omega | (simp; omega) | (simp; done)
  intro hc3 hf3
  clear og oe hfl hfk
  go_wp2_with fail
  refine bodyPost_ret (v := .agg #[.int .i64 T, .int .i64 V, .int .i64 B, .int .i64 E, .slice (some ⟨x, 0, none⟩) gn gn, .slice (some ⟨y, 0, none⟩) hn hn, .slice (some ⟨d, 0, none⟩) sn sn, .slice (some ⟨g, 0, none⟩) ln ln]) (by simp [results, Try.results18, go_sem, hc1, hc2, hc3]) rfl ⟨⟨T, V, B, E, some ⟨x, 0, none⟩, gn, gn, some ⟨y, 0, none⟩, hn, hn, some ⟨d, 0, none⟩, sn, sn, some ⟨g, 0, none⟩, ln, ln, ps, bs, fs⟩, rfl, ⟨rfl, rfl, rfl, rfl, rfl, rfl, rfl, rfl, rfl, rfl, OG.out.2.2.2⟩, ?_, ?_⟩
  · have k3 : ∀ V0, Kpt (fun k => w.heap.size + 3 ≤ k) w3 V0 → KvO V0 (w.heap.size + 3) ⟨T, V, B, E, some ⟨x, 0, none⟩, gn, gn, some ⟨y, 0, none⟩, hn, hn, some ⟨d, 0, none⟩, sn, sn, some ⟨g, 0, none⟩, ln, ln, ps, bs, fs⟩ ss := fun V0 hV => by
      have k2 : Kpt (fun k => w.heap.size + 3 ≤ k) w2 w3 := by
        repeat (first | with_reducible exact Kpt.refl _ _ | (with_reducible refine kpt_setN ?_ ?_ _; rotate_left; (focus (first | omega | (simp; omega) | (simp; done)))) | (with_reducible refine kpt_bel ?_ hb3))
      have k1 : Kpt (fun k => w.heap.size + 3 ≤ k) w1 w2 := by
        repeat (first | with_reducible exact Kpt.refl _ _ | (with_reducible refine kpt_setN ?_ ?_ _; rotate_left; (focus (first | omega | (simp; omega) | (simp; done)))) | (with_reducible refine kpt_bel ?_ hb2))
      have i1 : ∀ k, w.heap.size + 3 ≤ k → w.heap.size + 3 ≤ k := fun _ h => h
      exact ⟨HL.out.1, HL.out.2.1, HL.out.2.2.1, OG.out.2.2.1, HL.out.2.2.2, own_kpt OX.out.1 ((k1.trans k2).trans hV) i1, own_kpt OX.out.2 ((k1.trans k2).trans hV) i1, own_kpt OD.out (k2.trans hV) i1, own_kpt OG.out.1 hV i1, fun e he => ⟨⟨(OG.out.2.1 e he).1.hn, (OG.out.2.1 e he).1.ho, ((OG.out.2.1 e he).1.kpt hV i1).own⟩, (OG.out.2.1 e he).2⟩⟩
    refine (k3 _ ?_).mono (by omega)
    repeat (first | with_reducible exact Kpt.refl _ _ | (with_reducible refine kpt_setN ?_ ?_ _; rotate_left; (focus (first | omega | (simp; omega) | (simp; done)))))
  · repeat (first | with_reducible exact Below.refl _ _ | (with_reducible refine Below.drew ?_) | (with_reducible refine Below.alloc ?_ ?_ _; rotate_left; (focus (first | omega | (simp; omega) | (simp; done)))) | (with_reducible refine Below.setCell ?_ ?_ _; rotate_left; (focus (first | omega | (simp; omega) | (simp; done)))) | (with_reducible refine Below.trans ?_ (hb3.mono ?_); rotate_left; (focus (first | omega | (simp; omega) | (simp; done)))) | (with_reducible refine Below.trans ?_ (hb2.mono ?_); rotate_left; (focus (first | omega | (simp; omega) | (simp; done)))) | (with_reducible refine Below.trans ?_ (hb1.mono ?_); rotate_left; (focus (first | omega | (simp; omega) | (simp; done)))))

set_option maxRecDepth 10000 in
set_option maxHeartbeats 8000000 in
theorem eqKeep_same (m k : Kv) (ss : List Int) (w : World) (hr : KvF w m ss) (hq : KvF w k ss) (hk : KvE m k) (hs : KvS m) :
    Calls Try.prog 19 #[m.v, k.v] w fun e w' => e = .returned (.bool true) ∧ Below w.heap.size w w' := by
  obtain ⟨T', V', B', E', ga', gn', gc', ha', hn', hc', sa', sn', sc', la', ln', lc', ps', bs', es'⟩ := k
  obtain ⟨e0, e1, e2, e3, e4, e5, e6, e7, e8, e9, e10⟩ := hk
  simp only at e0 e1 e2 e3 e4 e5 e6 e7 e8 e9 e10
  subst e0 e1 e2 e3 e4 e5 e6 e7 e8 e9
  have HE := hidP (fun W (hb : Below w.heap.size w W) => eqEntryS_same m.la la' m.ln m.lc lc' m.es es' W hr.r.hl e10 (hr.r.rl.later hb) (hq.r.rl.later hb) (fun e he => (hr.r.dt e he).later hb) (fun e he => (hq.r.dt e he).later hb) hs.hl hs.hz)
  have HD := hidP (fun W (hb : Below w.heap.size w W) => eqByteG m.sa sa' m.sn m.sc sc' ss W hr.hs (hr.rs.later hb) (hq.rs.later hb) (by have := hs.hs; omega))
  have HG := hidP (fun W (hb : Below w.heap.size w W) => eqGroup_same m.ga ga' m.gn m.gc gc' m.ha ha' m.hn m.hc hc' m.ps m.bs W hr.r.hg hr.r.hh (hr.r.rg.later hb) (hq.r.rg.later hb) (hr.r.rh.later hb) (hq.r.rh.later hb) (by have := hs.hg; omega) (by have := hs.hh; omega))
  clear hr hq hs e10
  obtain ⟨T, V, B, E, ga, gn, gc, ha, hn, hc, sa, sn, sc, la, ln, lc, ps, bs, es⟩ := m
  simp only at HE HD HG
  go_enter Try.func19, Try.ntmps19
  go_wp2_with fail
  refine (HG.out _ ?_).mono ?_
  · repeat (first | with_reducible exact Below.refl _ _ | (with_reducible refine Below.drew ?_) | (with_reducible refine Below.alloc ?_ ?_ _; rotate_left; (focus (first | omega | (simp; omega) | (simp; done)))) | (with_reducible refine Below.setCell ?_ ?_ _; rotate_left; (focus (first | omega | (simp; omega) | (simp; done)))))
  rintro e w1 ⟨rfl, hb1⟩
  have hz1 := hb1.size
  try simp at hz1
  have f10 : w.heap.size < w1.heap.size := by omega
  have f11 : w.heap.size + 1 < w1.heap.size := by omega
  refine olds_k (w.heap.size + 2) hb1 ?_ ?_
  · first | omega | (simp; omega) | (simp; done)
  intro hc1 hf1
  go_wp2_with fail
  refine (HD.out _ ?_).mono ?_
  · repeat (first | with_reducible exact Below.refl _ _ | (with_reducible refine Below.drew ?_) | (with_reducible refine Below.alloc ?_ ?_ _; rotate_left; (focus (first | omega | (simp; omega) | (simp; done)))) | (with_reducible refine Below.setCell ?_ ?_ _; rotate_left; (focus (first | omega | (simp; omega) | (simp; done)))) | (with_reducible refine Below.trans ?_ (hb1.mono ?_); rotate_left; (focus (first | omega | (simp; omega) | (simp; done)))))
  rintro e w2 ⟨rfl, hb2⟩
  have hz2 := hb2.size
  try simp at hz2
  have f20 : w.heap.size < w2.heap.size := by omega
  have f21 : w.heap.size + 1 < w2.heap.size := by omega
  refine olds_k (w.heap.size + 2) hb2 ?_ ?_
  · first | omega | (simp; omega) | (simp; done)
  intro hc2 hf2
  go_wp2_with fail
  refine (HE.out _ ?_).mono ?_
  · repeat (first | with_reducible exact Below.refl _ _ | (with_reducible refine Below.drew ?_) | (with_reducible refine Below.alloc ?_ ?_ _; rotate_left; (focus (first | omega | (simp; omega) | (simp; done)))) | (with_reducible refine Below.setCell ?_ ?_ _; rotate_left; (focus (first | omega | (simp; omega) | (simp; done)))) | (with_reducible refine Below.trans ?_ (hb2.mono ?_); rotate_left; (focus (first | omega | (simp; omega) | (simp; done)))) | (with_reducible refine Below.trans ?_ (hb1.mono ?_); rotate_left; (focus (first | omega | (simp; omega) | (simp; done)))))
  rintro e w3 ⟨rfl, hb3⟩
  have hz3 := hb3.size
  try simp at hz3
  go_wp2_with fail
  go_ret
  refine ⟨rfl, ?_⟩
  repeat (first | with_reducible exact Below.refl _ _ | (with_reducible refine Below.drew ?_) | (with_reducible refine Below.alloc ?_ ?_ _; rotate_left; (focus (first | omega | (simp; omega) | (simp; done)))) | (with_reducible refine Below.setCell ?_ ?_ _; rotate_left; (focus (first | omega | (simp; omega) | (simp; done)))) | (with_reducible refine Below.trans ?_ (hb3.mono ?_); rotate_left; (focus (first | omega | (simp; omega) | (simp; done)))) | (with_reducible refine Below.trans ?_ (hb2.mono ?_); rotate_left; (focus (first | omega | (simp; omega) | (simp; done)))) | (with_reducible refine Below.trans ?_ (hb1.mono ?_); rotate_left; (focus (first | omega | (simp; omega) | (simp; done)))))

end Go.Proofs.Ytamaanbnlnpjcaa
