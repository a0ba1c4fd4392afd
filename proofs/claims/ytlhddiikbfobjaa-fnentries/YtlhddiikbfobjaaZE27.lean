/-
  What a Keep that comes of another one may be: bounds.
-/
import Derived.Test.YtlhddiikbfobjaaZE26
namespace Go.Proofs.Ytlhddiikbfobjaa
open Go.ChangeShapes Go.WideShapes Go.ChangeAt Go.RowKit Go.Joins Go.Deep

/-- Small bounds, with i rounds to go. -/
structure NB (k : Kv) (i : Nat) : Prop where
  b0 : 0 ≤ k.B
  b1 : k.B + 40 * (i : Int) ≤ 400
  l1 : k.ln + i ≤ 40
  t0 : 0 ≤ k.T
  t1 : k.T + (i : Int) ≤ 60
  e0 : 0 ≤ k.E
  e1 : k.E + (i : Int) ≤ 60
  es : ∀ e ∈ k.es, 0 ≤ e.T ∧ e.T + (i : Int) ≤ 60
  g : k.gn ≤ 100
  h : k.hn ≤ 100
  s : k.sn ≤ 400
theorem NB.ks {k : Kv} {i : Nat} (h : NB k i) : KS k := ⟨h.g, h.h, h.s, by have := h.l1; omega⟩
theorem NB.tm {k : Kv} {i : Nat} (h : NB k i) (j : Nat) : 0 ≤ tmE k j ∧ tmE k j + (i : Int) ≤ 60 := by
  have hi := h.l1
  cases j with
  | zero => exact ⟨h.e0, h.e1⟩
  | succ m =>
    show 0 ≤ ((k.es[m]?).map En.T).getD 0 ∧ ((k.es[m]?).map En.T).getD 0 + (i : Int) ≤ 60
    cases he : k.es[m]? with
    | none => exact ⟨Int.le_refl _, by show (0 : Int) + (i : Int) ≤ 60; omega⟩
    | some e => exact h.es e (List.mem_of_getElem? he)
theorem NB.ta {k : Kv} {i : Nat} (h : NB k i) (x : Int) : 0 ≤ taT k x ∧ taT k x + (i : Int) ≤ 60 := by
  have hi := h.l1
  unfold taT
  by_cases h9 : taO k x = true
  · rw [if_pos h9]; exact h.tm _
  · rw [if_neg h9]; exact ⟨Int.le_refl _, by omega⟩
theorem ris_le : ∀ (es : List En) (l : Int), risE l es = true → ∀ e ∈ es, l ≤ e.T ∧ e.T ≤ lasE l es
  | [], _, _, _, h => by cases h
  | x :: t, l, hr, e, h => by
    rw [risE_split, Bool.and_eq_true, Bool.and_eq_true, decide_eq_true_eq] at hr
    rw [lasE_cons]
    rcases List.mem_cons.1 h with rfl | h
    · exact ⟨hr.1.2, lasE_ge _ _ hr.2⟩
    · have := ris_le t x.T hr.2 e h
      exact ⟨by omega, this.2⟩
theorem NB.start {k : Kv} (h : KvOk k) (hn : k.ln = k.es.length) (h7 : k.es.length ≤ 7) (hB : k.B ≤ 100) (hT : k.T ≤ 20) (hg : k.gn ≤ 9) (hh : k.hn ≤ 9) (hs : k.sn ≤ 4) : NB k 4 := by
  have h1 := h.la
  have h0 := h.t0
  have hb := h.b
  have hE : 0 ≤ k.E ∧ k.E ≤ 20 := by rcases h.bs with h9 | h9 <;> omega
  refine ⟨hb.1, by omega, by omega, h0, by omega, hE.1, by omega, fun e he => ?_, by omega, by omega, by omega⟩
  have := ris_le k.es k.E h.rs e he
  omega
theorem OwnG.take {α : Type} {K : Kd α} {t : TypeId} {w : World} {B n c : Nat} {a : Option Addr} {ps : List α} (h : OwnG K t w B (.slice a n c) ps) (j : Nat) (hj : j ≤ ps.length) : OwnG K t w B (.slice a j c) (ps.take j) := by
  have hl : (ps.take j).length = j := by rw [List.length_take]; omega
  obtain ⟨_, h2⟩ := h
  refine ⟨gflat_len K _, ?_⟩
  rw [hl]
  rcases h2 with ⟨h0, hn⟩ | ⟨g, cap', cur, hv, hb, hh, hn, hcap, hsz, ht⟩
  · have j0 : j = 0 := by omega
    cases h0
    subst j0
    exact Or.inl ⟨rfl, rfl⟩
  · cases hv
    refine Or.inr ⟨g, _, cur, rfl, hb, hh, by omega, hcap, hsz, ?_⟩
    have h3 : gflat K ps = gflat K (ps.take j) ++ gflat K (ps.drop j) := by rw [← gflat_app, List.take_append_drop]
    have h4 := congrArg (List.take (j * K.k)) ht
    have h6 : (gflat K (ps.take j)).length = j * K.k := by rw [gflat_len, hl]
    have h5 : List.take (j * K.k) (gflat K (ps.take j) ++ gflat K (ps.drop j)) = gflat K (ps.take j) := by rw [← h6]; exact List.take_left
    rw [List.take_take, Nat.min_eq_left (Nat.mul_le_mul_right _ hj), h3, h5] at h4
    exact h4
theorem KR.take {X : World} {B kb : Nat} {k : Kv} {ss : List Int} (h : KR X B kb k ss) (j : Nat) (hj : j ≤ k.ln) : KR X B kb { k with ln := j, es := k.es.take j } ss :=
  ⟨h.hg, h.hh, h.hs, by show j = (k.es.take j).length; rw [List.length_take, ← h.hl]; omega, h.og, h.oh, h.os, h.oo, h.ol.take j (by rw [← h.hl]; exact hj), fun e he => h.oe e (List.mem_of_mem_take he), h.ng, h.nh, h.ns, fun q hq => h.nl q (by rw [← hq]; exact slice_ob)⟩
theorem next_fin {w w1 Y : World} {c : Nat} {a : Option Addr} {len cap qb : Nat} {k : Kv} {ss : List Int} {u0 u1 u2 u3 u4 u5 u6 u7 : Value} (h : KD w1 Y c a len cap qb k ss) (hk : Kp c w w1) (hc : c < w.heap.size) : Cur (((((((((Y).setCell ⟨w.heap.size + 1, 0, none⟩ u0).setCell ⟨w.heap.size + 1, 1, none⟩ u1).setCell ⟨w.heap.size + 1, 2, none⟩ u2).setCell ⟨w.heap.size + 1, 3, none⟩ u3).setCell ⟨w.heap.size + 1, 4, none⟩ u4).setCell ⟨w.heap.size + 1, 5, none⟩ u5).setCell ⟨w.heap.size + 1, 6, none⟩ u6).setCell ⟨w.heap.size + 1, 7, none⟩ u7) c a len cap ∧ Kp c w (((((((((Y).setCell ⟨w.heap.size + 1, 0, none⟩ u0).setCell ⟨w.heap.size + 1, 1, none⟩ u1).setCell ⟨w.heap.size + 1, 2, none⟩ u2).setCell ⟨w.heap.size + 1, 3, none⟩ u3).setCell ⟨w.heap.size + 1, 4, none⟩ u4).setCell ⟨w.heap.size + 1, 5, none⟩ u5).setCell ⟨w.heap.size + 1, 6, none⟩ u6).setCell ⟨w.heap.size + 1, 7, none⟩ u7) := by
  have C0 : Cur ((Y).setCell ⟨w.heap.size + 1, 0, none⟩ u0) c a len cap := Cur.far (h.cur) (by omega) _
  have K0 : Kp c w ((Y).setCell ⟨w.heap.size + 1, 0, none⟩ u0) := Kp.setNew ((hk.trans h.kp)) hc (by omega) _
  have C1 : Cur (((Y).setCell ⟨w.heap.size + 1, 0, none⟩ u0).setCell ⟨w.heap.size + 1, 1, none⟩ u1) c a len cap := Cur.far (C0) (by omega) _
  have K1 : Kp c w (((Y).setCell ⟨w.heap.size + 1, 0, none⟩ u0).setCell ⟨w.heap.size + 1, 1, none⟩ u1) := Kp.setNew (K0) hc (by omega) _
  have C2 : Cur ((((Y).setCell ⟨w.heap.size + 1, 0, none⟩ u0).setCell ⟨w.heap.size + 1, 1, none⟩ u1).setCell ⟨w.heap.size + 1, 2, none⟩ u2) c a len cap := Cur.far (C1) (by omega) _
  have K2 : Kp c w ((((Y).setCell ⟨w.heap.size + 1, 0, none⟩ u0).setCell ⟨w.heap.size + 1, 1, none⟩ u1).setCell ⟨w.heap.size + 1, 2, none⟩ u2) := Kp.setNew (K1) hc (by omega) _
  have C3 : Cur (((((Y).setCell ⟨w.heap.size + 1, 0, none⟩ u0).setCell ⟨w.heap.size + 1, 1, none⟩ u1).setCell ⟨w.heap.size + 1, 2, none⟩ u2).setCell ⟨w.heap.size + 1, 3, none⟩ u3) c a len cap := Cur.far (C2) (by omega) _
  have K3 : Kp c w (((((Y).setCell ⟨w.heap.size + 1, 0, none⟩ u0).setCell ⟨w.heap.size + 1, 1, none⟩ u1).setCell ⟨w.heap.size + 1, 2, none⟩ u2).setCell ⟨w.heap.size + 1, 3, none⟩ u3) := Kp.setNew (K2) hc (by omega) _
  have C4 : Cur ((((((Y).setCell ⟨w.heap.size + 1, 0, none⟩ u0).setCell ⟨w.heap.size + 1, 1, none⟩ u1).setCell ⟨w.heap.size + 1, 2, none⟩ u2).setCell ⟨w.heap.size + 1, 3, none⟩ u3).setCell ⟨w.heap.size + 1, 4, none⟩ u4) c a len cap := Cur.far (C3) (by omega) _
  have K4 : Kp c w ((((((Y).setCell ⟨w.heap.size + 1, 0, none⟩ u0).setCell ⟨w.heap.size + 1, 1, none⟩ u1).setCell ⟨w.heap.size + 1, 2, none⟩ u2).setCell ⟨w.heap.size + 1, 3, none⟩ u3).setCell ⟨w.heap.size + 1, 4, none⟩ u4) := Kp.setNew (K3) hc (by omega) _
  have C5 : Cur (((((((Y).setCell ⟨w.heap.size + 1, 0, none⟩ u0).setCell ⟨w.heap.size + 1, 1, none⟩ u1).setCell ⟨w.heap.size + 1, 2, none⟩ u2).setCell ⟨w.heap.size + 1, 3, none⟩ u3).setCell ⟨w.heap.size + 1, 4, none⟩ u4).setCell ⟨w.heap.size + 1, 5, none⟩ u5) c a len cap := Cur.far (C4) (by omega) _
  have K5 : Kp c w (((((((Y).setCell ⟨w.heap.size + 1, 0, none⟩ u0).setCell ⟨w.heap.size + 1, 1, none⟩ u1).setCell ⟨w.heap.size + 1, 2, none⟩ u2).setCell ⟨w.heap.size + 1, 3, none⟩ u3).setCell ⟨w.heap.size + 1, 4, none⟩ u4).setCell ⟨w.heap.size + 1, 5, none⟩ u5) := Kp.setNew (K4) hc (by omega) _
  have C6 : Cur ((((((((Y).setCell ⟨w.heap.size + 1, 0, none⟩ u0).setCell ⟨w.heap.size + 1, 1, none⟩ u1).setCell ⟨w.heap.size + 1, 2, none⟩ u2).setCell ⟨w.heap.size + 1, 3, none⟩ u3).setCell ⟨w.heap.size + 1, 4, none⟩ u4).setCell ⟨w.heap.size + 1, 5, none⟩ u5).setCell ⟨w.heap.size + 1, 6, none⟩ u6) c a len cap := Cur.far (C5) (by omega) _
  have K6 : Kp c w ((((((((Y).setCell ⟨w.heap.size + 1, 0, none⟩ u0).setCell ⟨w.heap.size + 1, 1, none⟩ u1).setCell ⟨w.heap.size + 1, 2, none⟩ u2).setCell ⟨w.heap.size + 1, 3, none⟩ u3).setCell ⟨w.heap.size + 1, 4, none⟩ u4).setCell ⟨w.heap.size + 1, 5, none⟩ u5).setCell ⟨w.heap.size + 1, 6, none⟩ u6) := Kp.setNew (K5) hc (by omega) _
  have C7 : Cur (((((((((Y).setCell ⟨w.heap.size + 1, 0, none⟩ u0).setCell ⟨w.heap.size + 1, 1, none⟩ u1).setCell ⟨w.heap.size + 1, 2, none⟩ u2).setCell ⟨w.heap.size + 1, 3, none⟩ u3).setCell ⟨w.heap.size + 1, 4, none⟩ u4).setCell ⟨w.heap.size + 1, 5, none⟩ u5).setCell ⟨w.heap.size + 1, 6, none⟩ u6).setCell ⟨w.heap.size + 1, 7, none⟩ u7) c a len cap := Cur.far (C6) (by omega) _
  have K7 : Kp c w (((((((((Y).setCell ⟨w.heap.size + 1, 0, none⟩ u0).setCell ⟨w.heap.size + 1, 1, none⟩ u1).setCell ⟨w.heap.size + 1, 2, none⟩ u2).setCell ⟨w.heap.size + 1, 3, none⟩ u3).setCell ⟨w.heap.size + 1, 4, none⟩ u4).setCell ⟨w.heap.size + 1, 5, none⟩ u5).setCell ⟨w.heap.size + 1, 6, none⟩ u6).setCell ⟨w.heap.size + 1, 7, none⟩ u7) := Kp.setNew (K6) hc (by omega) _
  exact ⟨C7, K7⟩

theorem two_cells {P : Int → Prop} {X : World} {q : Nat} {x y : Int} (h : Bx X q [.int .i64 x, .int .i64 y]) (hx : P x) (hy : P y) : ∀ j, j < 2 → ∃ z, P z ∧ X.cell? ⟨q, j, none⟩ = some (.int .i64 z)
  | 0, _ => ⟨x, hx, h.cel 0 _ rfl⟩
  | 1, _ => ⟨y, hy, h.cel 1 _ rfl⟩
  | _ + 2, h9 => by omega
theorem es_app {es : List En} {E : En} {i : Nat} {z : Int} (h : ∀ e ∈ es, 0 ≤ e.T ∧ e.T + (i : Int) ≤ 60) (hE : E.T = z) (hz : 1 ≤ z ∧ z + (i : Int) ≤ 60) : ∀ e ∈ es ++ [E], 0 ≤ e.T ∧ e.T + ((i - 1 : Nat) : Int) ≤ 60 := fun e he => by
  rcases List.mem_append.1 he with h9 | h9
  · have := h e h9
    omega
  · rw [List.mem_singleton.1 h9, hE]
    omega
theorem es_sub {es fs : List En} {i : Nat} (h : ∀ e ∈ es, 0 ≤ e.T ∧ e.T + (i : Int) ≤ 60) (hs : ∀ e ∈ fs, ∃ f ∈ es, e.T = f.T) : ∀ e ∈ fs, 0 ≤ e.T ∧ e.T + ((i - 1 : Nat) : Int) ≤ 60 := fun e he => by
  obtain ⟨f, hf, ht⟩ := hs e he
  have := h f hf
  rw [ht]
  omega
theorem KD.all {w Y : World} {c : Nat} {a : Option Addr} {len cap qb : Nat} {k : Kv} {ss zs : List Int} {T V B E : Int} {ga : Option Addr} {gn gc : Nat} {ha : Option Addr} {hn hc : Nat} {sa : Option Addr} {sn sc : Nat} {la : Option Addr} {ln lc : Nat} {ps bs : List Int} {es : List En} (h : KD w Y c a len cap qb k ss) (hr : KR Y (w.heap.size + 1) qb ⟨T, V, B, E, ga, gn, gc, ha, hn, hc, sa, sn, sc, la, ln, lc, ps, bs, es⟩ zs) : KD w (((((((((Y).setCell ⟨qb, 0, none⟩ (.int .i64 T)).setCell ⟨qb, 1, none⟩ (.int .i64 V)).setCell ⟨qb, 2, none⟩ (.int .i64 B)).setCell ⟨qb, 3, none⟩ (.int .i64 E)).setCell ⟨qb, 4, none⟩ (.slice ga gn gc)).setCell ⟨qb, 5, none⟩ (.slice ha hn hc)).setCell ⟨qb, 6, none⟩ (.slice sa sn sc)).setCell ⟨qb, 7, none⟩ (.slice la ln lc)) c a len cap qb ⟨T, V, B, E, ga, gn, gc, ha, hn, hc, sa, sn, sc, la, ln, lc, ps, bs, es⟩ zs := by
  have h1 := h.hc
  have h2 := h.lt
  have C0 : Cur ((Y).setCell ⟨qb, 0, none⟩ (.int .i64 T)) c a len cap := Cur.far (h.cur) (by omega) _
  have K0 : Kp c w ((Y).setCell ⟨qb, 0, none⟩ (.int .i64 T)) := Kp.setNew (h.kp) h1 (by omega) _
  have R0 := Bx.far (b := qb) (i := 0) (h.rs) (by omega) (.int .i64 T)
  have B0 := (h.bx).set 0 _ (.int .i64 T) rfl
  have H0 := KR.set (hr) 0 (.int .i64 T)
  have C1 : Cur (((Y).setCell ⟨qb, 0, none⟩ (.int .i64 T)).setCell ⟨qb, 1, none⟩ (.int .i64 V)) c a len cap := Cur.far (C0) (by omega) _
  have K1 : Kp c w (((Y).setCell ⟨qb, 0, none⟩ (.int .i64 T)).setCell ⟨qb, 1, none⟩ (.int .i64 V)) := Kp.setNew (K0) h1 (by omega) _
  have R1 := Bx.far (b := qb) (i := 1) (R0) (by omega) (.int .i64 V)
  have B1 := (B0).set 1 _ (.int .i64 V) rfl
  have H1 := KR.set (H0) 1 (.int .i64 V)
  have C2 : Cur ((((Y).setCell ⟨qb, 0, none⟩ (.int .i64 T)).setCell ⟨qb, 1, none⟩ (.int .i64 V)).setCell ⟨qb, 2, none⟩ (.int .i64 B)) c a len cap := Cur.far (C1) (by omega) _
  have K2 : Kp c w ((((Y).setCell ⟨qb, 0, none⟩ (.int .i64 T)).setCell ⟨qb, 1, none⟩ (.int .i64 V)).setCell ⟨qb, 2, none⟩ (.int .i64 B)) := Kp.setNew (K1) h1 (by omega) _
  have R2 := Bx.far (b := qb) (i := 2) (R1) (by omega) (.int .i64 B)
  have B2 := (B1).set 2 _ (.int .i64 B) rfl
  have H2 := KR.set (H1) 2 (.int .i64 B)
  have C3 : Cur (((((Y).setCell ⟨qb, 0, none⟩ (.int .i64 T)).setCell ⟨qb, 1, none⟩ (.int .i64 V)).setCell ⟨qb, 2, none⟩ (.int .i64 B)).setCell ⟨qb, 3, none⟩ (.int .i64 E)) c a len cap := Cur.far (C2) (by omega) _
  have K3 : Kp c w (((((Y).setCell ⟨qb, 0, none⟩ (.int .i64 T)).setCell ⟨qb, 1, none⟩ (.int .i64 V)).setCell ⟨qb, 2, none⟩ (.int .i64 B)).setCell ⟨qb, 3, none⟩ (.int .i64 E)) := Kp.setNew (K2) h1 (by omega) _
  have R3 := Bx.far (b := qb) (i := 3) (R2) (by omega) (.int .i64 E)
  have B3 := (B2).set 3 _ (.int .i64 E) rfl
  have H3 := KR.set (H2) 3 (.int .i64 E)
  have C4 : Cur ((((((Y).setCell ⟨qb, 0, none⟩ (.int .i64 T)).setCell ⟨qb, 1, none⟩ (.int .i64 V)).setCell ⟨qb, 2, none⟩ (.int .i64 B)).setCell ⟨qb, 3, none⟩ (.int .i64 E)).setCell ⟨qb, 4, none⟩ (.slice ga gn gc)) c a len cap := Cur.far (C3) (by omega) _
  have K4 : Kp c w ((((((Y).setCell ⟨qb, 0, none⟩ (.int .i64 T)).setCell ⟨qb, 1, none⟩ (.int .i64 V)).setCell ⟨qb, 2, none⟩ (.int .i64 B)).setCell ⟨qb, 3, none⟩ (.int .i64 E)).setCell ⟨qb, 4, none⟩ (.slice ga gn gc)) := Kp.setNew (K3) h1 (by omega) _
  have R4 := Bx.far (b := qb) (i := 4) (R3) (by omega) (.slice ga gn gc)
  have B4 := (B3).set 4 _ (.slice ga gn gc) rfl
  have H4 := KR.set (H3) 4 (.slice ga gn gc)
  have C5 : Cur (((((((Y).setCell ⟨qb, 0, none⟩ (.int .i64 T)).setCell ⟨qb, 1, none⟩ (.int .i64 V)).setCell ⟨qb, 2, none⟩ (.int .i64 B)).setCell ⟨qb, 3, none⟩ (.int .i64 E)).setCell ⟨qb, 4, none⟩ (.slice ga gn gc)).setCell ⟨qb, 5, none⟩ (.slice ha hn hc)) c a len cap := Cur.far (C4) (by omega) _
  have K5 : Kp c w (((((((Y).setCell ⟨qb, 0, none⟩ (.int .i64 T)).setCell ⟨qb, 1, none⟩ (.int .i64 V)).setCell ⟨qb, 2, none⟩ (.int .i64 B)).setCell ⟨qb, 3, none⟩ (.int .i64 E)).setCell ⟨qb, 4, none⟩ (.slice ga gn gc)).setCell ⟨qb, 5, none⟩ (.slice ha hn hc)) := Kp.setNew (K4) h1 (by omega) _
  have R5 := Bx.far (b := qb) (i := 5) (R4) (by omega) (.slice ha hn hc)
  have B5 := (B4).set 5 _ (.slice ha hn hc) rfl
  have H5 := KR.set (H4) 5 (.slice ha hn hc)
  have C6 : Cur ((((((((Y).setCell ⟨qb, 0, none⟩ (.int .i64 T)).setCell ⟨qb, 1, none⟩ (.int .i64 V)).setCell ⟨qb, 2, none⟩ (.int .i64 B)).setCell ⟨qb, 3, none⟩ (.int .i64 E)).setCell ⟨qb, 4, none⟩ (.slice ga gn gc)).setCell ⟨qb, 5, none⟩ (.slice ha hn hc)).setCell ⟨qb, 6, none⟩ (.slice sa sn sc)) c a len cap := Cur.far (C5) (by omega) _
  have K6 : Kp c w ((((((((Y).setCell ⟨qb, 0, none⟩ (.int .i64 T)).setCell ⟨qb, 1, none⟩ (.int .i64 V)).setCell ⟨qb, 2, none⟩ (.int .i64 B)).setCell ⟨qb, 3, none⟩ (.int .i64 E)).setCell ⟨qb, 4, none⟩ (.slice ga gn gc)).setCell ⟨qb, 5, none⟩ (.slice ha hn hc)).setCell ⟨qb, 6, none⟩ (.slice sa sn sc)) := Kp.setNew (K5) h1 (by omega) _
  have R6 := Bx.far (b := qb) (i := 6) (R5) (by omega) (.slice sa sn sc)
  have B6 := (B5).set 6 _ (.slice sa sn sc) rfl
  have H6 := KR.set (H5) 6 (.slice sa sn sc)
  have C7 : Cur (((((((((Y).setCell ⟨qb, 0, none⟩ (.int .i64 T)).setCell ⟨qb, 1, none⟩ (.int .i64 V)).setCell ⟨qb, 2, none⟩ (.int .i64 B)).setCell ⟨qb, 3, none⟩ (.int .i64 E)).setCell ⟨qb, 4, none⟩ (.slice ga gn gc)).setCell ⟨qb, 5, none⟩ (.slice ha hn hc)).setCell ⟨qb, 6, none⟩ (.slice sa sn sc)).setCell ⟨qb, 7, none⟩ (.slice la ln lc)) c a len cap := Cur.far (C6) (by omega) _
  have K7 : Kp c w (((((((((Y).setCell ⟨qb, 0, none⟩ (.int .i64 T)).setCell ⟨qb, 1, none⟩ (.int .i64 V)).setCell ⟨qb, 2, none⟩ (.int .i64 B)).setCell ⟨qb, 3, none⟩ (.int .i64 E)).setCell ⟨qb, 4, none⟩ (.slice ga gn gc)).setCell ⟨qb, 5, none⟩ (.slice ha hn hc)).setCell ⟨qb, 6, none⟩ (.slice sa sn sc)).setCell ⟨qb, 7, none⟩ (.slice la ln lc)) := Kp.setNew (K6) h1 (by omega) _
  have R7 := Bx.far (b := qb) (i := 7) (R6) (by omega) (.slice la ln lc)
  have B7 := (B6).set 7 _ (.slice la ln lc) rfl
  have H7 := KR.set (H6) 7 (.slice la ln lc)
  exact ⟨C7, K7, h.hc, R7, B7, h.lt, H7⟩
/-- Rows newer than a box. -/
theorem KW.kr2 {X : World} {B kb : Nat} {k : Kv} {ss : List Int} (h : KW X B k ss) (hk : kb < B) : KR X B kb k ss :=
  ⟨h.hg, h.hh, h.hs, h.hl, h.og, h.oh, h.os, h.oo, h.ol, fun e he => have g := h.oe e he; ⟨g.hn, g.ho, g.n4, g.own, fun q hq => by have := (g.own.lt q hq).1; omega⟩, fun q hq => by have := (h.og.lt q hq).1; omega, fun q hq => by have := (h.oh.lt q hq).1; omega, fun q hq => by have := (h.os.lt q hq).1; omega, fun q hq => by have := (h.ol.lt q hq).1; omega⟩
theorem Bx.far8 {x : World} {p b : Nat} {vs : List Value} (h : Bx x p vs) (hb : b ≠ p) (v0 v1 v2 v3 v4 v5 v6 v7 : Value) : Bx (((((((((x).setCell ⟨b, 0, none⟩ v0).setCell ⟨b, 1, none⟩ v1).setCell ⟨b, 2, none⟩ v2).setCell ⟨b, 3, none⟩ v3).setCell ⟨b, 4, none⟩ v4).setCell ⟨b, 5, none⟩ v5).setCell ⟨b, 6, none⟩ v6).setCell ⟨b, 7, none⟩ v7) p vs := (Bx.far (b := b) (i := 7) (Bx.far (b := b) (i := 6) (Bx.far (b := b) (i := 5) (Bx.far (b := b) (i := 4) (Bx.far (b := b) (i := 3) (Bx.far (b := b) (i := 2) (Bx.far (b := b) (i := 1) (Bx.far (b := b) (i := 0) h hb v0) hb v1) hb v2) hb v3) hb v4) hb v5) hb v6) hb v7)
/-- A Keep's value. -/
def KpV (v : Value) : Prop := ∃ k : Kv, v = k.v

end Go.Proofs.Ytlhddiikbfobjaa
