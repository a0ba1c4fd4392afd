/-
  A message: its cells; the laws' copies of it, looks at it, its size.
-/
import Derived.Test.YtgenjjhchnnpnaaDoorV14X
namespace Go.Proofs.YtgenjjhchnnpnaaDoor
open Go.ChangeShapes Go.WideShapes Go.ChangeAt Go.RowKit Go.Joins Go.Deep

/-- A message's cells, and what its rows hold. -/
structure Mg where
  K : Int
  F : Int
  T : Int
  M : Int
  I : Int
  L : Int
  ea : Option Addr
  en : Nat
  ec : Nat
  C : Int
  O : Bool
  da : Option Addr
  dn : Nat
  dc : Nat
  ga : Option Addr
  gn : Nat
  gc : Nat
  ha : Option Addr
  hn : Nat
  hc : Nat
  es : List En
  ds : List Int
  ps : List Int
  bs : List Int
abbrev Mg.v (m : Mg) : Value := .agg #[.int .i64 m.K, .int .i64 m.F, .int .i64 m.T, .int .i64 m.M, .int .i64 m.I, .int .i64 m.L, .slice m.ea m.en m.ec, .int .i64 m.C, .bool m.O, .slice m.da m.dn m.dc, .slice m.ga m.gn m.gc, .slice m.ha m.hn m.hc]
/-- It can be read. -/
structure MgR (w : World) (m : Mg) : Prop where
  he : m.en = m.es.length
  hd : m.dn = m.ds.length
  hg : m.gn = m.ps.length
  hh : m.hn = m.bs.length
  od : Oct m.ds
  re : RowG KEn w m.ea m.es
  dt : ∀ e ∈ m.es, DatR w e
  rd : RowG KBy w m.da m.ds
  rg : RowG KI w m.ga m.ps
  rh : RowG KI w m.ha m.bs
theorem MgR.later {w w' : World} {m : Mg} (h : MgR w m) (hb : Below w.heap.size w w') : MgR w' m := ⟨h.he, h.hd, h.hg, h.hh, h.od, h.re.later hb, fun e he => (h.dt e he).later hb, h.rd.later hb, h.rg.later hb, h.rh.later hb⟩
/-- It is not too long. -/
structure MgS (m : Mg) : Prop where
  he : m.en ≤ 1048576
  hz : ∀ e ∈ m.es, e.n ≤ 1048576
  hd : m.dn ≤ 1048576
  hg : m.gn ≤ 1048576
  hh : m.hn ≤ 1048576
/-- The same message, elsewhere. -/
structure MgE (m k : Mg) : Prop where
  K : k.K = m.K
  F : k.F = m.F
  T : k.T = m.T
  M : k.M = m.M
  I : k.I = m.I
  L : k.L = m.L
  C : k.C = m.C
  O : k.O = m.O
  en : k.en = m.en
  dn : k.dn = m.dn
  gn : k.gn = m.gn
  hn : k.hn = m.hn
  es : k.es.map En.key = m.es.map En.key
  ds : k.ds = m.ds
  ps : k.ps = m.ps
  bs : k.bs = m.bs
/-- All that it holds. -/
def totM (m : Mg) : Int := ((m.en : Int) + sumE m.es) + ((m.dn : Int) + ((m.gn : Int) + (m.hn : Int)))

set_option maxHeartbeats 1000000 in
theorem szGroup_at (ap : Option Addr) (np cp : Nat) (ab : Option Addr) (nb cb : Nat) (L : Int) (h0 : 0 ≤ L) (h1 : L ≤ 1048576) (w : World) (h9 : np ≤ 9223372036854775807) (h9' : nb ≤ 9223372036854775807) :
    Calls Tryd.prog 11 #[.agg #[.slice ap np cp, .slice ab nb cb], .int .i64 L] w fun e w' => e = .returned (.int .i64 (szR L ((np : Int) + (nb : Int)))) ∧ Below w.heap.size w w' := by
  by_cases hl : (np : Int) ≤ L
  · have HP := hidP (szIntS_any ap np cp L hl h1)
    have hz0 : ¬ (L - (np : Int) < 0) := by omega
    have hz1 : decide (L - (np : Int) < 0) = false := decide_eq_false hz0
    by_cases ht : (nb : Int) ≤ L - np
    · have HBk := hidP (szIntS_any ab nb cb (L - np) ht (by omega))
      rw [szR_yes (by omega)]
      have hz2 : decide (L - (np : Int) - (nb : Int) < 0) = false := decide_eq_false (by omega)
      have HE : Hid (L - (np : Int) - (nb : Int) = L - ((np : Int) + (nb : Int))) := hidP (by omega)
      generalize (L - (np : Int) - (nb : Int)) = z at *
      have hz3 : ¬ z < 0 := by simpa using hz2
      go_enter Tryd.func11, Tryd.ntmps11
      go_wp2_with fail
      refine (HP.out _).mono ?_
      rintro e w1 ⟨rfl, rfl⟩
      go_wp2_with fail
      refine (HBk.out _).mono ?_
      rintro e w2 ⟨rfl, rfl⟩
      go_wp2_with fail
      go_ret
      exact ⟨ret_i HE.out, alloc_below w _⟩
    · have HBk := hidP (szIntS_big ab nb cb (L - np) (by omega) (by omega) h9')
      rw [szR_no (by omega)]
      go_enter Tryd.func11, Tryd.ntmps11
      go_wp2_with fail
      refine (HP.out _).mono ?_
      rintro e w1 ⟨rfl, rfl⟩
      go_wp2_with fail
      refine (HBk.out _).mono ?_
      rintro e w2 ⟨rfl, rfl⟩
      go_wp2_with fail
      go_ret
      exact ⟨rfl, alloc_below w _⟩
  · have HP := hidP (szIntS_big ap np cp L (by omega) (by omega) h9)
    rw [szR_no (by omega)]
    go_enter Tryd.func11, Tryd.ntmps11
    go_wp2_with fail
    refine (HP.out _).mono ?_
    rintro e w1 ⟨rfl, rfl⟩
    go_wp2_with fail
    go_ret
    exact ⟨rfl, alloc_below w _⟩

set_option maxRecDepth 10000 in
set_option maxHeartbeats 4000000 in
theorem szMsg_any (m : Mg) (w : World) (hr : MgR w m) (h1 : m.en ≤ 9223372036854775807) (h2 : ∀ e ∈ m.es, e.n ≤ 9223372036854775807) (h3 : m.dn ≤ 9223372036854775807) (h4 : m.gn ≤ 9223372036854775807) (h5 : m.hn ≤ 9223372036854775807) :
    Calls Tryd.prog 4 #[m.v, .int .i64 1048576] w fun e w' => e = .returned (.int .i64 (szR 1048576 (totM m))) ∧ Below w.heap.size w w' := by
  have HE := hidP (fun W (hb : Below w.heap.size w W) => szEntryS_at m.ea m.en m.ec m.es 1048576 (by omega) (by omega) W hr.he (hr.re.later hb) h1 h2)
  have s1 := sumE_nn m.es
  unfold totM
  rw [szR_step (by omega)]
  clear hr h1 h2
  obtain ⟨K, F, T, M, I, L, ea, en, ec, C, O, da, dn, dc, ga, gn, gc, ha, hn, hc, es, ds, ps, bs⟩ := m
  simp only at HE s1 h3 h4 h5
  dsimp only
  generalize hA : ((en : Int) + sumE es) = A at *
  have hA0 : 0 ≤ A := by omega
  by_cases ht : A ≤ 1048576
  · rw [szR_yes ht] at HE
    rw [if_pos ht]
    generalize hM : (1048576 - A) = M1 at *
    have m0 : 0 ≤ M1 := by omega
    have m1 : M1 ≤ 1048576 := by omega
    clear hM hA ht s1
    have HD := hidP (fun W => szByteS_at da dn dc M1 m0 m1 W h3)
    have d1 : decide (M1 < 0) = false := decide_eq_false (by omega)
    have d2 : ¬ (M1 < 0) := by omega
    rw [szR_step (by omega)]
    by_cases hu : (dn : Int) ≤ M1
    · rw [szR_yes hu] at HD
      rw [if_pos hu]
      generalize hM : (M1 - (dn : Int)) = M2 at *
      have n0 : 0 ≤ M2 := by omega
      have n1 : M2 ≤ 1048576 := by omega
      have HG := hidP (fun W => szGroup_at ga gn gc ha hn hc M2 n0 n1 W h4 h5)
      have d3 : decide (M2 < 0) = false := decide_eq_false (by omega)
      have d4 : ¬ (M2 < 0) := by omega
      have s3 : decide (szR M2 ((gn : Int) + (hn : Int)) < 0) = decide (szR M2 ((gn : Int) + (hn : Int)) = -1) := by
        by_cases hv : (gn : Int) + (hn : Int) ≤ M2
        · rw [szR_yes hv, decide_eq_false (by omega), decide_eq_false (by omega)]
        · rw [szR_no hv]; rfl
      by_cases hv : (gn : Int) + (hn : Int) ≤ M2
      · rw [szR_yes hv] at HG ⊢
        clear s3
        generalize hM3 : (M2 - ((gn : Int) + (hn : Int))) = M3 at *
        have d5 : decide (M3 < 0) = false := decide_eq_false (by omega)
        have d6 : ¬ (M3 < 0) := by omega
        clear hM hM3 hu hv m0 m1 n0 n1 h3 h4 h5
        go_enter Tryd.func4, Tryd.ntmps4
        go_wp2_with fail
        refine (HE.out _ (alloc_below w _)).mono ?_
        rintro e w1 ⟨rfl, hb1⟩
        have q1 := alloc_below w (.cells #[.int .i64 K, .int .i64 F, .int .i64 T, .int .i64 M, .int .i64 I, .int .i64 L, .slice ea en ec, .int .i64 C, .bool O, .slice da dn dc, .slice ga gn gc, .slice ha hn hc] 28)
        have HB1 := hidP (q1.trans (hb1.mono q1.size))
        have f1 : w.heap.size < w1.heap.size := by have := hb1.size; simp at this; omega
        refine olds_k (w.heap.size + 1) hb1 (by simp) ?_
        intro hc1 hf1
        clear hb1 q1
        go_wp2_with fail
        refine (HD.out _).mono ?_
        rintro e w2 ⟨rfl, hb2⟩
        have HB2 := hidP (HB1.out.trans (hb2.mono HB1.out.size))
        have f2 : w.heap.size < w2.heap.size := by have := hb2.size; omega
        refine olds_k (w.heap.size + 1) hb2 (by omega) ?_
        intro hc2 hf2
        clear hb2
        go_wp2_with fail
        refine (HG.out _).mono ?_
        rintro e w3 ⟨rfl, hb3⟩
        have HB3 := hidP (HB2.out.trans (hb3.mono HB2.out.size))
        clear hb3
        go_wp2_with fail
        go_ret
        exact ⟨rfl, HB3.out⟩
      · rw [szR_no hv] at HG ⊢
        clear s3 hM hu hv m0 m1 n0 n1 h3 h4 h5
        go_enter Tryd.func4, Tryd.ntmps4
        go_wp2_with fail
        refine (HE.out _ (alloc_below w _)).mono ?_
        rintro e w1 ⟨rfl, hb1⟩
        have q1 := alloc_below w (.cells #[.int .i64 K, .int .i64 F, .int .i64 T, .int .i64 M, .int .i64 I, .int .i64 L, .slice ea en ec, .int .i64 C, .bool O, .slice da dn dc, .slice ga gn gc, .slice ha hn hc] 28)
        have HB1 := hidP (q1.trans (hb1.mono q1.size))
        have f1 : w.heap.size < w1.heap.size := by have := hb1.size; simp at this; omega
        refine olds_k (w.heap.size + 1) hb1 (by simp) ?_
        intro hc1 hf1
        clear hb1 q1
        go_wp2_with fail
        refine (HD.out _).mono ?_
        rintro e w2 ⟨rfl, hb2⟩
        have HB2 := hidP (HB1.out.trans (hb2.mono HB1.out.size))
        have f2 : w.heap.size < w2.heap.size := by have := hb2.size; omega
        refine olds_k (w.heap.size + 1) hb2 (by omega) ?_
        intro hc2 hf2
        clear hb2
        go_wp2_with fail
        refine (HG.out _).mono ?_
        rintro e w3 ⟨rfl, hb3⟩
        have HB3 := hidP (HB2.out.trans (hb3.mono HB2.out.size))
        clear hb3
        go_wp2_with fail
        go_ret
        exact ⟨rfl, HB3.out⟩
    · rw [szR_no hu] at HD
      rw [if_neg hu]
      clear hu m0 m1 h3 h4 h5
      go_enter Tryd.func4, Tryd.ntmps4
      go_wp2_with fail
      refine (HE.out _ (alloc_below w _)).mono ?_
      rintro e w1 ⟨rfl, hb1⟩
      have q1 := alloc_below w (.cells #[.int .i64 K, .int .i64 F, .int .i64 T, .int .i64 M, .int .i64 I, .int .i64 L, .slice ea en ec, .int .i64 C, .bool O, .slice da dn dc, .slice ga gn gc, .slice ha hn hc] 28)
      have HB1 := hidP (q1.trans (hb1.mono q1.size))
      have f1 : w.heap.size < w1.heap.size := by have := hb1.size; simp at this; omega
      refine olds_k (w.heap.size + 1) hb1 (by simp) ?_
      intro hc1 hf1
      clear hb1 q1
      go_wp2_with fail
      refine (HD.out _).mono ?_
      rintro e w2 ⟨rfl, hb2⟩
      have HB2 := hidP (HB1.out.trans (hb2.mono HB1.out.size))
      have f2 : w.heap.size < w2.heap.size := by have := hb2.size; omega
      clear hb2
      go_wp2_with fail
      go_ret
      exact ⟨rfl, HB2.out⟩
  · rw [szR_no ht] at HE
    rw [if_neg ht]
    clear ht hA s1 h3 h4 h5
    go_enter Tryd.func4, Tryd.ntmps4
    go_wp2_with fail
    refine (HE.out _ (alloc_below w _)).mono ?_
    rintro e w1 ⟨rfl, hb1⟩
    have q1 := alloc_below w (.cells #[.int .i64 K, .int .i64 F, .int .i64 T, .int .i64 M, .int .i64 I, .int .i64 L, .slice ea en ec, .int .i64 C, .bool O, .slice da dn dc, .slice ga gn gc, .slice ha hn hc] 28)
    have HB1 := hidP (q1.trans (hb1.mono q1.size))
    have f1 : w.heap.size < w1.heap.size := by have := hb1.size; simp at this; omega
    clear hb1 q1
    go_wp2_with fail
    go_ret
    exact ⟨rfl, HB1.out⟩

set_option maxRecDepth 10000 in
set_option maxHeartbeats 8000000 in
theorem toMsg_any (m : Mg) (w : World) (hr : MgR w m) (hs : MgS m) :
    Calls Tryd.prog 6 #[m.v] w fun e w' => ∃ k : Mg, e = .returned k.v ∧ MgE m k ∧ (MgR w' k ∧ ∀ e ∈ k.es, EnF e) ∧ Below w.heap.size w w' := by
  have HE := hidP (fun W (hb : Below w.heap.size w W) => toEntryS_any m.ea m.en m.ec m.es W hr.he (hr.re.later hb) (fun e he => (hr.dt e he).later hb) hs.he hs.hz)
  have HD := hidP (fun W (hb : Below w.heap.size w W) => toByteG m.da m.dn m.dc m.ds W hr.hd (hr.rd.later hb) hs.hd)
  have HG := hidP (fun W (hb : Below w.heap.size w W) => toGroup_any m.ga m.gn m.gc m.ha m.hn m.hc m.ps m.bs W hr.hg hr.hh (hr.rg.later hb) (hr.rh.later hb) hs.hg hs.hh)
  have HL := hidP (And.intro hr.hd (And.intro hr.hg (And.intro hr.hh hr.od)))
  clear hr hs
  obtain ⟨K, F, T, M, I, L, ea, en, ec, C, O, da, dn, dc, ga, gn, gc, ha, hn, hc, es, ds, ps, bs⟩ := m
  simp only at HE HD HG HL
  go_enter Tryd.func6, Tryd.ntmps6
  go_wp2_with fail
  refine (HE.out _ ?_).mono ?_
  · repeat (first | with_reducible exact Below.refl _ _ | (with_reducible refine Below.drew ?_) | (with_reducible refine Below.alloc ?_ ?_ _; rotate_left; (focus (first | omega | (simp; omega) | (simp; done)))) | (with_reducible refine Below.setCell ?_ ?_ _; rotate_left; (focus (first | omega | (simp; omega) | (simp; done)))))
  rintro e w1 ⟨g, fs, rfl, hfl, hfk, og, oe, hb1⟩
  have hz1 := hb1.size
  try simp at hz1
  have f10 : w.heap.size < w1.heap.size := by omega
  have f11 : w.heap.size + 1 < w1.heap.size := by omega
  have f12 : w.heap.size + 2 < w1.heap.size := by omega
  have OG : Hid (OwnG KEn 44 w1 (w.heap.size + 3) (.slice (some ⟨g, 0, none⟩) en en) fs ∧ (∀ e ∈ fs, EnO w1 (w.heap.size + 3) g e ∧ EnF e) ∧ en = fs.length ∧ fs.map En.key = es.map En.key) := hidP ⟨og.mono (by simp), fun e he => ⟨⟨(oe e he).1.hn, (oe e he).1.ho, (oe e he).1.own.mono (by simp), (oe e he).1.ne⟩, (oe e he).2⟩, hfl, hfk⟩
  refine olds_k (w.heap.size + 3) hb1 ?_ ?_
  · first | omega | (simp; omega) | (simp; done)
  intro hc1 hf1
  clear og oe hfl hfk
  go_wp2_with fail
  refine (HD.out _ ?_).mono ?_
  · repeat (first | with_reducible exact Below.refl _ _ | (with_reducible refine Below.drew ?_) | (with_reducible refine Below.alloc ?_ ?_ _; rotate_left; (focus (first | omega | (simp; omega) | (simp; done)))) | (with_reducible refine Below.setCell ?_ ?_ _; rotate_left; (focus (first | omega | (simp; omega) | (simp; done)))) | (with_reducible refine Below.trans ?_ (hb1.mono ?_); rotate_left; (focus (first | omega | (simp; omega) | (simp; done)))))
  rintro e w2 ⟨d, rfl, od, hb2⟩
  have hz2 := hb2.size
  try simp at hz2
  have f20 : w.heap.size < w2.heap.size := by omega
  have f21 : w.heap.size + 1 < w2.heap.size := by omega
  have f22 : w.heap.size + 2 < w2.heap.size := by omega
  have OD : Hid (OwnG KBy 5 w2 (w.heap.size + 3) (.slice (some ⟨d, 0, none⟩) dn dn) ds) := hidP (od.mono (by simp; omega))
  refine olds_k (w.heap.size + 3) hb2 ?_ ?_
  · first | omega | (simp; omega) | (simp; done)
  intro hc2 hf2
  clear od
  go_wp2_with fail
  refine (HG.out _ ?_).mono ?_
  · repeat (first | with_reducible exact Below.refl _ _ | (with_reducible refine Below.drew ?_) | (with_reducible refine Below.alloc ?_ ?_ _; rotate_left; (focus (first | omega | (simp; omega) | (simp; done)))) | (with_reducible refine Below.setCell ?_ ?_ _; rotate_left; (focus (first | omega | (simp; omega) | (simp; done)))) | (with_reducible refine Below.trans ?_ (hb2.mono ?_); rotate_left; (focus (first | omega | (simp; omega) | (simp; done)))) | (with_reducible refine Below.trans ?_ (hb1.mono ?_); rotate_left; (focus (first | omega | (simp; omega) | (simp; done)))))
  rintro e w3 ⟨x, y, rfl, ox, oy, hxy, hb3⟩
  have hz3 := hb3.size
  try simp at hz3
  have f30 : w.heap.size < w3.heap.size := by omega
  have f31 : w.heap.size + 1 < w3.heap.size := by omega
  have f32 : w.heap.size + 2 < w3.heap.size := by omega
  have OX : Hid (OwnG KI 3 w3 (w.heap.size + 3) (.slice (some ⟨x, 0, none⟩) gn gn) ps ∧ OwnG KI 3 w3 (w.heap.size + 3) (.slice (some ⟨y, 0, none⟩) hn hn) bs) := hidP ⟨ox.mono (by simp; omega), oy.mono (by simp; omega)⟩
  refine olds_k (w.heap.size + 3) hb3 ?_ ?_
  · first | omega | (simp; omega) | (simp; done)
  intro hc3 hf3
  clear ox oy hxy
  go_wp2_with fail
  refine bodyPost_ret (v := .agg #[.int .i64 K, .int .i64 F, .int .i64 T, .int .i64 M, .int .i64 I, .int .i64 L, .slice (some ⟨g, 0, none⟩) en en, .int .i64 C, .bool O, .slice (some ⟨d, 0, none⟩) dn dn, .slice (some ⟨x, 0, none⟩) gn gn, .slice (some ⟨y, 0, none⟩) hn hn]) (by simp [results, Tryd.results6, go_sem, hc1, hc2, hc3]) rfl ⟨⟨K, F, T, M, I, L, some ⟨g, 0, none⟩, en, en, C, O, some ⟨d, 0, none⟩, dn, dn, some ⟨x, 0, none⟩, gn, gn, some ⟨y, 0, none⟩, hn, hn, fs, ds, ps, bs⟩, rfl, ⟨rfl, rfl, rfl, rfl, rfl, rfl, rfl, rfl, rfl, rfl, rfl, rfl, OG.out.2.2.2, rfl, rfl, rfl⟩, ?_, ?_⟩
  · have k3 : ∀ V, Kpt (fun k => w.heap.size + 3 ≤ k) w3 V → MgR V ⟨K, F, T, M, I, L, some ⟨g, 0, none⟩, en, en, C, O, some ⟨d, 0, none⟩, dn, dn, some ⟨x, 0, none⟩, gn, gn, some ⟨y, 0, none⟩, hn, hn, fs, ds, ps, bs⟩ := fun V hV => by
      have k2 : Kpt (fun k => w.heap.size + 3 ≤ k) w2 w3 := by
        repeat (first | with_reducible exact Kpt.refl _ _ | (with_reducible refine kpt_setN ?_ ?_ _; rotate_left; (focus (first | omega | (simp; omega) | (simp; done)))) | (with_reducible refine kpt_bel ?_ hb3))
      have k1 : Kpt (fun k => w.heap.size + 3 ≤ k) w1 w2 := by
        repeat (first | with_reducible exact Kpt.refl _ _ | (with_reducible refine kpt_setN ?_ ?_ _; rotate_left; (focus (first | omega | (simp; omega) | (simp; done)))) | (with_reducible refine kpt_bel ?_ hb2))
      have i1 : ∀ k, w.heap.size + 3 ≤ k → w.heap.size + 3 ≤ k := fun _ h => h
      exact ⟨OG.out.2.2.1, HL.out.1, HL.out.2.1, HL.out.2.2.1, HL.out.2.2.2, (own_kpt OG.out.1 ((k1.trans k2).trans hV) i1).row, fun e he => ((OG.out.2.1 e he).1.kpt ((k1.trans k2).trans hV) i1).dat, (own_kpt OD.out (k2.trans hV) i1).row, (own_kpt OX.out.1 hV i1).row, (own_kpt OX.out.2 hV i1).row⟩
    refine ⟨k3 _ ?_, fun e he => (OG.out.2.1 e he).2⟩
    repeat (first | with_reducible exact Kpt.refl _ _ | (with_reducible refine kpt_setN ?_ ?_ _; rotate_left; (focus (first | omega | (simp; omega) | (simp; done)))))
  · repeat (first | with_reducible exact Below.refl _ _ | (with_reducible refine Below.drew ?_) | (with_reducible refine Below.alloc ?_ ?_ _; rotate_left; (focus (first | omega | (simp; omega) | (simp; done)))) | (with_reducible refine Below.setCell ?_ ?_ _; rotate_left; (focus (first | omega | (simp; omega) | (simp; done)))) | (with_reducible refine Below.trans ?_ (hb3.mono ?_); rotate_left; (focus (first | omega | (simp; omega) | (simp; done)))) | (with_reducible refine Below.trans ?_ (hb2.mono ?_); rotate_left; (focus (first | omega | (simp; omega) | (simp; done)))) | (with_reducible refine Below.trans ?_ (hb1.mono ?_); rotate_left; (focus (first | omega | (simp; omega) | (simp; done)))))

set_option maxRecDepth 10000 in
set_option maxHeartbeats 8000000 in
theorem eqMsg_same (m k : Mg) (w : World) (hr : MgR w m) (hq : MgR w k) (hk : MgE m k) (hs : MgS m) :
    Calls Tryd.prog 8 #[m.v, k.v] w fun e w' => e = .returned (.bool true) ∧ Below w.heap.size w w' := by
  obtain ⟨K', F', T', M', I', L', ea', en', ec', C', O', da', dn', dc', ga', gn', gc', ha', hn', hc', es', ds', ps', bs'⟩ := k
  obtain ⟨e0, e1, e2, e3, e4, e5, e6, e7, e8, e9, e10, e11, e12, e13, e14, e15⟩ := hk
  simp only at e0 e1 e2 e3 e4 e5 e6 e7 e8 e9 e10 e11 e12 e13 e14 e15
  subst e0 e1 e2 e3 e4 e5 e6 e7 e8 e9 e10 e11 e13 e14 e15
  have HE := hidP (fun W (hb : Below w.heap.size w W) => eqEntryS_same m.ea ea' m.en m.ec ec' m.es es' W hr.he e12 (hr.re.later hb) (hq.re.later hb) (fun e he => (hr.dt e he).later hb) (fun e he => (hq.dt e he).later hb) hs.he hs.hz)
  have HD := hidP (fun W (hb : Below w.heap.size w W) => eqByteG m.da da' m.dn m.dc dc' m.ds W hr.hd (hr.rd.later hb) (hq.rd.later hb) (by have := hs.hd; omega))
  have HG := hidP (fun W (hb : Below w.heap.size w W) => eqGroup_same m.ga ga' m.gn m.gc gc' m.ha ha' m.hn m.hc hc' m.ps m.bs W hr.hg hr.hh (hr.rg.later hb) (hq.rg.later hb) (hr.rh.later hb) (hq.rh.later hb) (by have := hs.hg; omega) (by have := hs.hh; omega))
  clear hr hq hs e12
  obtain ⟨K, F, T, M, I, L, ea, en, ec, C, O, da, dn, dc, ga, gn, gc, ha, hn, hc, es, ds, ps, bs⟩ := m
  simp only at HE HD HG
  go_enter Tryd.func8, Tryd.ntmps8
  go_wp2_with fail
  refine (HE.out _ ?_).mono ?_
  · repeat (first | with_reducible exact Below.refl _ _ | (with_reducible refine Below.drew ?_) | (with_reducible refine Below.alloc ?_ ?_ _; rotate_left; (focus (first | omega | (simp; omega) | (simp; done)))) | (with_reducible refine Below.setCell ?_ ?_ _; rotate_left; (focus (first | omega | (simp; omega) | (simp; done)))))
  rintro e w1 ⟨rfl, hb1⟩
  have hz1 := hb1.size
  try simp at hz1
  have f10 : w.heap.size < w1.heap.size := by omega
  have f11 : w.heap.size + 1 < w1.heap.size := by omega
  refine olds_k (w.heap.size + 2) hb1 ?_ ?_
  · first | omega | (simp; omega) | (simp; done)
  intro hc1 hf1
  go_wp2_with fail
  refine (HD.out _ ?_).mono ?_
  · repeat (first | with_reducible exact Below.refl _ _ | (with_reducible refine Below.drew ?_) | (with_reducible refine Below.alloc ?_ ?_ _; rotate_left; (focus (first | omega | (simp; omega) | (simp; done)))) | (with_reducible refine Below.setCell ?_ ?_ _; rotate_left; (focus (first | omega | (simp; omega) | (simp; done)))) | (with_reducible refine Below.trans ?_ (hb1.mono ?_); rotate_left; (focus (first | omega | (simp; omega) | (simp; done)))))
  rintro e w2 ⟨rfl, hb2⟩
  have hz2 := hb2.size
  try simp at hz2
  have f20 : w.heap.size < w2.heap.size := by omega
  have f21 : w.heap.size + 1 < w2.heap.size := by omega
  refine olds_k (w.heap.size + 2) hb2 ?_ ?_
  · first | omega | (simp; omega) | (simp; done)
  intro hc2 hf2
  go_wp2_with fail
  refine (HG.out _ ?_).mono ?_
  · repeat (first | with_reducible exact Below.refl _ _ | (with_reducible refine Below.drew ?_) | (with_reducible refine Below.alloc ?_ ?_ _; rotate_left; (focus (first | omega | (simp; omega) | (simp; done)))) | (with_reducible refine Below.setCell ?_ ?_ _; rotate_left; (focus (first | omega | (simp; omega) | (simp; done)))) | (with_reducible refine Below.trans ?_ (hb2.mono ?_); rotate_left; (focus (first | omega | (simp; omega) | (simp; done)))) | (with_reducible refine Below.trans ?_ (hb1.mono ?_); rotate_left; (focus (first | omega | (simp; omega) | (simp; done)))))
  rintro e w3 ⟨rfl, hb3⟩
  have hz3 := hb3.size
  try simp at hz3
  go_wp2_with fail
  go_ret
  refine ⟨rfl, ?_⟩
  repeat (first | with_reducible exact Below.refl _ _ | (with_reducible refine Below.drew ?_) | (with_reducible refine Below.alloc ?_ ?_ _; rotate_left; (focus (first | omega | (simp; omega) | (simp; done)))) | (with_reducible refine Below.setCell ?_ ?_ _; rotate_left; (focus (first | omega | (simp; omega) | (simp; done)))) | (with_reducible refine Below.trans ?_ (hb3.mono ?_); rotate_left; (focus (first | omega | (simp; omega) | (simp; done)))) | (with_reducible refine Below.trans ?_ (hb2.mono ?_); rotate_left; (focus (first | omega | (simp; omega) | (simp; done)))) | (with_reducible refine Below.trans ?_ (hb1.mono ?_); rotate_left; (focus (first | omega | (simp; omega) | (simp; done)))))

end Go.Proofs.YtgenjjhchnnpnaaDoor
