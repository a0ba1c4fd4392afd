/-
  The specification's l13Draw: some right Keep, its rows one's own.
-/
import Derived.Test.YtlhddiikbfobjaaZE15
import Derived.Test.YtlhddiikbfobjaaZE1
namespace Go.Proofs.Ytlhddiikbfobjaa
open Go.ChangeShapes Go.WideShapes Go.ChangeAt Go.RowKit Go.Joins Go.Deep

theorem En.ok_n {e : En} (h : e.ok = true) (hn : e.n = e.zs.length) : e.n ≤ 400 := by
  unfold En.ok enB at h
  rw [Bool.and_eq_true] at h
  have h2 := h.2
  simp only [Bool.or_eq_true, Bool.and_eq_true, beq_iff_eq, decide_eq_true_eq] at h2
  rcases h2 with (h2 | h2) | h2
  · omega
  · omega
  · have : e.zs.length = 2 := by
      have h3 := h2.2
      match hz : e.zs, h3 with
      | [_, _], _ => rfl
      | [], h3 => cases h3
      | [_], h3 => cases h3
      | _ :: _ :: _ :: _, h3 => cases h3
    omega
theorem ris_app : ∀ (es : List En) (l : Int) (e : En), risE l (es ++ [e]) = (risE l es && (e.ok && decide (lasE l es ≤ e.T)))
  | [], l, e => by show ((e.ok && decide (l ≤ e.T)) && true) = (true && (e.ok && decide (l ≤ e.T))); simp
  | x :: t, l, e => by
      show risE l (x :: (t ++ [e])) = _
      rw [risE_split, risE_split, lasE_cons, ris_app t x.T e]
      simp only [Bool.and_assoc]
theorem las_app : ∀ (es : List En) (l : Int) (e : En), lasE l (es ++ [e]) = e.T
  | [], _, _ => rfl
  | x :: t, _, e => las_app t x.T e
theorem Kp.bel14 {c B : Nat} {w X Y : World} (h : Kp c w X) (b : Below B X Y) (hB : w.heap.size ≤ B) (hc : c < w.heap.size) : Kp c w Y :=
  ⟨h.low.trans (b.mono (by omega)), Nat.le_trans h.big b.size, fun q o hq hn => (b.cell (by show q < B; omega)).trans (h.cel q o hq hn), fun q o hq hn => (b.frozen (by show q < B; omega)).trans (h.frz q o hq hn), fun q hq hn => (b.block q (by omega)).trans (h.blk q hq hn)⟩
/-- While a Keep is drawn: the result's box is w's first new block, the Keep's box is kb. -/
structure KD (w X : World) (c : Nat) (a : Option Addr) (len cap kb : Nat) (k : Kv) (ss : List Int) : Prop where
  cur : Cur X c a len cap
  kp : Kp c w X
  hc : c < w.heap.size
  rs : Bx X w.heap.size [.int .i64 0, .int .i64 0, .int .i64 0, .int .i64 0, .slice none 0 0, .slice none 0 0, .slice none 0 0, .slice none 0 0]
  bx : Bx X kb k.cs
  lt : w.heap.size < kb
  kr : KR X (w.heap.size + 1) kb k ss
theorem KD.keep {w X Y : World} {c : Nat} {a : Option Addr} {len cap kb : Nat} {k : Kv} {ss : List Int} (h : KD w X c a len cap kb k ss) (hC : Cur Y c a len cap) (q : Kp c X Y) : KD w Y c a len cap kb k ss := by
  have h1 := h.hc
  have h2 := h.lt
  exact ⟨hC, h.kp.trans q, h.hc, h.rs.kp q (by omega), h.bx.kp q (by omega), h.lt, h.kr.kp q (by omega)⟩
theorem KD.below {w X Y : World} {c : Nat} {a : Option Addr} {len cap kb : Nat} {k : Kv} {ss : List Int} (h : KD w X c a len cap kb k ss) (b : Below X.heap.size X Y) : KD w Y c a len cap kb k ss := h.keep (h.cur.grew b) (Kp.of_below h.cur.lt b)
theorem KD.put {w X : World} {c : Nat} {a : Option Addr} {len cap kb : Nat} {k k' : Kv} {ss ss' : List Int} (h : KD w X c a len cap kb k ss) (i : Nat) (u v : Value) (hu : k.cs[i]? = some u) (hcs : k.cs.set i v = k'.cs) (hr : KR X (w.heap.size + 1) kb k' ss') : KD w (X.setCell ⟨kb, i, none⟩ v) c a len cap kb k' ss' := by
  have h1 := h.hc
  have h2 := h.lt
  exact ⟨h.cur.far (by omega) _, h.kp.setNew h.hc (by omega) _, h.hc, h.rs.far (by omega) v, hcs ▸ h.bx.set i u v hu, h.lt, hr.set i v⟩
theorem KR.app14 {w X Y : World} {c : Nat} {a : Option Addr} {len cap kb : Nat} {k : Kv} {ss : List Int} {a' : Option Addr} {c' : Nat} {E : En} (h : KD w X c a len cap kb k ss) (hg : X.grownBy Y (Value.slice k.la k.ln k.lc).ownBlock) (ho : OwnG KEn 65 Y (w.heap.size + 1) (.slice a' (k.ln + 1) c') (k.es ++ [E])) (ht : a' = k.la ∨ a' = some ⟨X.heap.size, 0, none⟩) (hE : EnS X (w.heap.size + 1) kb E) :
    KR Y (w.heap.size + 1) kb { k with la := a', ln := k.ln + 1, lc := c', es := k.es ++ [E] } ss := by
  have hk : Kpt (fun q => some q ≠ (Value.slice k.la k.ln k.lc).ownBlock) X Y := ⟨hg.os, hg.tape, hg.output, hg.size, fun q hq hn => hg.block q hq hn⟩
  have r := h.kr
  have ne : (3 : TypeId) ≠ 65 := by decide
  have nu : (5 : TypeId) ≠ 65 := by decide
  have hlt := h.bx.lt
  refine ⟨r.hg, r.hh, r.hs, by show k.ln + 1 = (k.es ++ [E]).length; rw [List.length_append, ← r.hl]; rfl, r.og.kpt hk (fun q hq e => own_sep r.og r.ol ne q hq e.symm), r.oh.kpt hk (fun q hq e => own_sep r.oh r.ol ne q hq e.symm), r.os.kpt hk (fun q hq e => own_sep r.os r.ol nu q hq e.symm), r.oo, ho, fun e he => ?_, r.ng, r.nh, r.ns, fun q hq => ?_⟩
  · have g : EnS X (w.heap.size + 1) kb e := by
      rcases List.mem_append.1 he with he | he
      · exact r.oe e he
      · rw [List.mem_singleton.1 he]; exact hE
    exact ⟨g.hn, g.ho, g.n4, g.own.kpt hk (fun q hq e => own_sep g.own r.ol nu q hq e.symm), g.nk⟩
  · rcases ht with rfl | rfl
    · refine r.nl q ?_
      cases hla : k.la with
      | none => rw [hla] at hq; cases hq
      | some ad => rw [hla] at hq; exact hq
    · have : X.heap.size = q := Option.some.inj hq
      omega
theorem KD.grown {w X Y : World} {c : Nat} {a : Option Addr} {len cap kb : Nat} {k : Kv} {ss : List Int} (h : KD w X c a len cap kb k ss) (hg : X.grownBy Y (Value.slice k.la k.ln k.lc).ownBlock) : Cur Y c a len cap ∧ Kp c w Y ∧ Bx Y w.heap.size [.int .i64 0, .int .i64 0, .int .i64 0, .int .i64 0, .slice none 0 0, .slice none 0 0, .slice none 0 0, .slice none 0 0] ∧ Bx Y kb k.cs := by
  have h1 := h.hc
  have h2 := h.lt
  have h3 := h.rs.lt
  have hb : Below (w.heap.size + 1) X Y := (Below.refl _ X).grown hg (by omega) (fun q hq => (h.kr.ol.lt q hq).1)
  exact ⟨h.cur.keep (hb.mono (by omega)), h.kp.bel14 hb (by omega) h1, h.rs.grown hg (fun e => by have := (h.kr.ol.lt _ e.symm).1; omega), h.bx.grown hg (fun e => h.kr.nl _ e.symm rfl)⟩
theorem slice_ob {a : Option Addr} {n n' c c' : Nat} : (Value.slice a n c).ownBlock = (Value.slice a n' c').ownBlock := by cases a <;> rfl
def BsOk (B E : Int) (sn : Nat) : Prop := (B = 0 ∧ E = 0 ∧ sn = 0) ∨ (1 ≤ B ∧ B ≤ 100 ∧ 1 ≤ E ∧ sn ≤ 4)
/-- The loop of the draw. -/
structure LpI (w X : World) (c : Nat) (a : Option Addr) (len cap kb : Nat) (k0 k : Kv) (ss : List Int) (i : Nat) (t : Int) : Prop where
  kd : KD w X c a len cap kb k ss
  i7 : k.es.length + i ≤ 7
  t0 : 1 ≤ t
  t1 : t + i ≤ 11
  iT : k.T = 0
  iV : k.V = 0
  iB : k.B = k0.B
  iE : k.E = k0.E
  iS : k.sn = k0.sn
  iP : k.ps = k0.ps
  iQ : k.bs = k0.bs
  et : k.E ≤ t
  rs : risE k.E k.es = true
  la : lasE k.E k.es ≤ t
/-- How a Keep comes out. -/
def DrK (w w' : World) (e : Ending) : Prop := ∃ (k : Kv) (kb : Nat) (ss : List Int), e = .returned k.v ∧ KvOk k ∧ KR w' w.heap.size kb k ss ∧ w.heap.size ≤ kb ∧ k.es.length ≤ 7 ∧ ss.length ≤ 4 ∧ k.gn ≤ 9 ∧ k.hn ≤ 9 ∧ k.T ≤ 20 ∧ k.B ≤ 100
theorem KR.mono {X : World} {B C kb : Nat} {k : Kv} {ss : List Int} (h : KR X B kb k ss) (hb : C ≤ B) : KR X C kb k ss :=
  ⟨h.hg, h.hh, h.hs, h.hl, h.og.mono hb, h.oh.mono hb, h.os.mono hb, h.oo, h.ol.mono hb, fun e he => have g := h.oe e he; ⟨g.hn, g.ho, g.n4, g.own.mono hb, g.nk⟩, h.ng, h.nh, h.ns, h.nl⟩

theorem lp_step {w X Y : World} {c : Nat} {a : Option Addr} {len cap kb : Nat} {k0 : Kv} {ss : List Int} {i : Nat} {t t' T V B E0 : Int} {ga : Option Addr} {gn gc : Nat} {ha : Option Addr} {hn hc : Nat} {sa : Option Addr} {sn sc : Nat} {la a8 : Option Addr} {ln lc c8 : Nat} {ps bs : List Int} {es : List En} {E : En}
    (h : LpI w X c a len cap kb k0 ⟨T, V, B, E0, ga, gn, gc, ha, hn, hc, sa, sn, sc, la, ln, lc, ps, bs, es⟩ ss i t) (hi : 0 < i) (hT : E.T = t') (hE : E.ok = true) (h1 : t ≤ t') (h2 : t' ≤ t + 1)
    (hy : KD w Y c a len cap kb ⟨T, V, B, E0, ga, gn, gc, ha, hn, hc, sa, sn, sc, a8, ln + 1, c8, ps, bs, es ++ [E]⟩ ss) :
    LpI w Y c a len cap kb k0 ⟨T, V, B, E0, ga, gn, gc, ha, hn, hc, sa, sn, sc, a8, ln + 1, c8, ps, bs, es ++ [E]⟩ ss (i - 1) t' := by
  have a1 := h.i7
  have a2 := h.t0
  have a3 := h.t1
  have a4 := h.et
  have a5 := h.rs
  have a6 := h.la
  simp only at a1 a4 a5 a6
  refine ⟨hy, by show (es ++ [E]).length + (i - 1) ≤ 7; rw [List.length_append]; show es.length + 1 + (i - 1) ≤ 7; omega, by omega, by omega, h.iT, h.iV, h.iB, h.iE, h.iS, h.iP, h.iQ, by show E0 ≤ t'; omega, ?_, ?_⟩
  · show risE E0 (es ++ [E]) = true
    rw [ris_app, a5, hE, decide_eq_true (by omega)]
    rfl
  · show lasE E0 (es ++ [E]) ≤ t'
    rw [las_app, hT]
    exact Int.le_refl _

theorem draw_fin {w X Y : World} {c : Nat} {a : Option Addr} {len cap kb : Nat} {k0 : Kv} {ss : List Int} {i : Nat} {t x y T V B E0 : Int} {ga : Option Addr} {gn gc : Nat} {ha : Option Addr} {hn hc : Nat} {sa : Option Addr} {sn sc : Nat} {la : Option Addr} {ln lc : Nat} {ps bs : List Int} {es : List En} {u0 u1 u2 u3 u4 u5 u6 u7 : Value}
    (h : LpI w X c a len cap kb k0 ⟨T, V, B, E0, ga, gn, gc, ha, hn, hc, sa, sn, sc, la, ln, lc, ps, bs, es⟩ ss i t) (hy : KD w Y c a len cap kb ⟨t + x, y, B, E0, ga, gn, gc, ha, hn, hc, sa, sn, sc, la, ln, lc, ps, bs, es⟩ ss) (hi : i = 0)
    (hM : grB k0.ps k0.bs = true ∧ k0.ps.length ≤ 9 ∧ k0.bs.length ≤ 9) (h0 : BsOk k0.B k0.E k0.sn) (x0 : 0 ≤ x) (x8 : x < 2) (y0 : 0 ≤ y) (y8 : y < 4) :
    DrK w ((((((((Y.setCell ⟨w.heap.size, 0, none⟩ u0).setCell ⟨w.heap.size, 1, none⟩ u1).setCell ⟨w.heap.size, 2, none⟩ u2).setCell ⟨w.heap.size, 3, none⟩ u3).setCell ⟨w.heap.size, 4, none⟩ u4).setCell ⟨w.heap.size, 5, none⟩ u5).setCell ⟨w.heap.size, 6, none⟩ u6).setCell ⟨w.heap.size, 7, none⟩ u7) (.returned (Kv.v ⟨t + x, y, B, E0, ga, gn, gc, ha, hn, hc, sa, sn, sc, la, ln, lc, ps, bs, es⟩)) ∧ Cur ((((((((Y.setCell ⟨w.heap.size, 0, none⟩ u0).setCell ⟨w.heap.size, 1, none⟩ u1).setCell ⟨w.heap.size, 2, none⟩ u2).setCell ⟨w.heap.size, 3, none⟩ u3).setCell ⟨w.heap.size, 4, none⟩ u4).setCell ⟨w.heap.size, 5, none⟩ u5).setCell ⟨w.heap.size, 6, none⟩ u6).setCell ⟨w.heap.size, 7, none⟩ u7) c a len cap ∧ Kp c w ((((((((Y.setCell ⟨w.heap.size, 0, none⟩ u0).setCell ⟨w.heap.size, 1, none⟩ u1).setCell ⟨w.heap.size, 2, none⟩ u2).setCell ⟨w.heap.size, 3, none⟩ u3).setCell ⟨w.heap.size, 4, none⟩ u4).setCell ⟨w.heap.size, 5, none⟩ u5).setCell ⟨w.heap.size, 6, none⟩ u6).setCell ⟨w.heap.size, 7, none⟩ u7) := by
  have hc := hy.hc
  have l := Nat.lt_succ_self w.heap.size
  have q0 := h.t0
  have q1 := h.t1
  have q2 := h.i7
  have q3 := h.rs
  have q4 := h.la
  have q5 := h.iB
  have q6 := h.iE
  have q7 := h.iS
  have q8 := h.iP
  have q9 := h.iQ
  have q10 := h.et
  have q11 := hy.kr.hg
  have q12 := hy.kr.hh
  have q13 := hy.kr.hs
  have q14 := hy.kr.hl
  simp only at q2 q3 q4 q5 q6 q7 q8 q9 q10 q11 q12 q13 q14
  refine ⟨⟨_, kb, ss, rfl, ⟨by show 0 ≤ t + x; omega, by show t + x ≤ 1000000; omega, y0, by show y ≤ 7; omega, ?_, by show grB ps bs = true; rw [q8, q9]; exact hM.1, by show ps.length ≤ 1048576 ∧ bs.length ≤ 1048576; rw [q8, q9]; omega, by show es.length ≤ 120; omega, by show B + (es.length : Int) ≤ 1000000; rw [q5]; rcases h0 with h0 | h0 <;> omega, q3, by show lasE E0 es ≤ t + x; omega⟩, (((((((((hy.kr.low l 0 u0).low l 1 u1).low l 2 u2).low l 3 u3).low l 4 u4).low l 5 u5).low l 6 u6).low l 7 u7).mono (Nat.le_succ _)), by have := hy.lt; omega, by show es.length ≤ 7; omega, by rw [← q13, q7]; rcases h0 with h0 | h0 <;> omega, by show gn ≤ 9; rw [q11, q8]; omega, by show hn ≤ 9; rw [q12, q9]; omega, by show t + x ≤ 20; omega, by show B ≤ 100; rw [q5]; rcases h0 with h0 | h0 <;> omega⟩, ((((((((hy.cur.far hc _).far hc _).far hc _).far hc _).far hc _).far hc _).far hc _).far hc _), ((((((((hy.kp.setNew hc (Nat.le_refl _) _).setNew hc (Nat.le_refl _) _).setNew hc (Nat.le_refl _) _).setNew hc (Nat.le_refl _) _).setNew hc (Nat.le_refl _) _).setNew hc (Nat.le_refl _) _).setNew hc (Nat.le_refl _) _).setNew hc (Nat.le_refl _) _)⟩
  show (B = 0 ∧ E0 = 0 ∧ sn = 0) ∨ (1 ≤ B ∧ B ≤ 1000000 ∧ 1 ≤ E0 ∧ E0 ≤ t + x ∧ sn ≤ 20000)
  rw [q5, q6, q7]
  rcases h0 with h0 | h0
  · exact Or.inl h0
  · exact Or.inr ⟨h0.1, by omega, h0.2.2.1, by omega, by omega⟩

set_option maxRecDepth 10000 in
set_option maxHeartbeats 20000000 in
theorem l13Draw_ok (c : Nat) (a : Option Addr) (len cap : Nat) (M : Int) (m0 : 1 ≤ M) (m1 : M ≤ 8) (w : World) (hC : Cur w c a len cap) :
    Calls Try.prog 22 #[.pointer (some ⟨c, 0, none⟩), .int .i64 M] w fun e w' => DrK w w' e ∧ Cur w' c a len cap ∧ Kp c w w' := by
  have hc := hC.lt
  have H1 := hidP (And.intro (hC.more (.cells #[.int .i64 0, .int .i64 0, .int .i64 0, .int .i64 0, .slice none 0 0, .slice none 0 0, .slice none 0 0, .slice none 0 0] 29)) (And.intro ((Kp.refl c w).more hc (.cells #[.int .i64 0, .int .i64 0, .int .i64 0, .int .i64 0, .slice none 0 0, .slice none 0 0, .slice none 0 0, .slice none 0 0] 29)) (Bx.new w [.int .i64 0, .int .i64 0, .int .i64 0, .int .i64 0, .slice none 0 0, .slice none 0 0, .slice none 0 0, .slice none 0 0] 29)))
  have hS1 : (w.alloc (.cells #[.int .i64 0, .int .i64 0, .int .i64 0, .int .i64 0, .slice none 0 0, .slice none 0 0, .slice none 0 0, .slice none 0 0] 29)).heap.size = w.heap.size + 1 := by simp
  clear hC
  go_enter Try.func22, Try.ntmps22
  go_wp2_with fail
  generalize w.alloc (.cells #[.int .i64 0, .int .i64 0, .int .i64 0, .int .i64 0, .slice none 0 0, .slice none 0 0, .slice none 0 0, .slice none 0 0] 29) = W1 at *
  refine (l12Draw_ok c a len cap _ H1.out.1).mono ?_
  rintro e w2 ⟨⟨a1, np, c1, a2, nb, c2, ps, bs, rfl, hn1, hn2, hl1, hl2, o1, o2, hg, hgb⟩, hC2, hK2⟩
  have HM : Hid (grB ps bs = true ∧ ps.length ≤ 9 ∧ bs.length ≤ 9) := hidP ⟨hg, by omega, by omega⟩
  have HK := hidP (sKnA_yes a1 np c1 a2 nb c2 ps bs w2 hn1 hn2 o1.row o2.row o1.caps.2.2.2 o2.caps.2.2.2 (by omega) (by omega) hg)
  have HN := hidP (And.intro hn1 hn2)
  have H2 := hidP (And.intro hC2 (And.intro (H1.out.2.1.trans hK2) (H1.out.2.2.kp hK2 (by omega))))
  have hS2 : W1.heap.size ≤ w2.heap.size := hK2.big
  clear o1 o2 hg hgb hC2 hK2 hn1 hn2 H1
  go_wp2_with fail
  refine HK.out.mono ?_
  rintro e w3 ⟨g1, h1, g2, h2, rfl, og, oh, nq, hb3⟩
  have H3 := hidP (And.intro (H2.out.1.grew hb3) (And.intro (H2.out.2.1.trans (Kp.of_below H2.out.1.lt hb3)) (H2.out.2.2.later hb3)))
  have OG := hidP (And.intro og oh)
  have hS3 : w2.heap.size ≤ w3.heap.size := hb3.size
  clear og oh nq hb3 HK H2
  go_wp2_with fail
  have kB := alloc_below w3 (.cells #[.int .i64 0, .int .i64 0, .int .i64 0, .int .i64 0, .slice g1 np h1, .slice g2 nb h2, .slice none 0 0, .slice none 0 0] 29)
  have kX := Bx.new w3 [.int .i64 0, .int .i64 0, .int .i64 0, .int .i64 0, .slice g1 np h1, .slice g2 nb h2, .slice none 0 0, .slice none 0 0] 29
  have kX2 : Bx (w3.alloc (.cells #[.int .i64 0, .int .i64 0, .int .i64 0, .int .i64 0, .slice g1 np h1, .slice g2 nb h2, .slice none 0 0, .slice none 0 0] 29)) w3.heap.size (Kv.cs ⟨0, 0, 0, 0, g1, np, h1, g2, nb, h2, none, 0, 0, none, 0, 0, ps, bs, []⟩) := kX
  generalize w3.alloc (.cells #[.int .i64 0, .int .i64 0, .int .i64 0, .int .i64 0, .slice g1 np h1, .slice g2 nb h2, .slice none 0 0, .slice none 0 0] 29) = W4 at *
  have H4 : Hid (KD w W4 c a len cap w3.heap.size ⟨0, 0, 0, 0, g1, np, h1, g2, nb, h2, none, 0, 0, none, 0, 0, ps, bs, []⟩ []) := hidP ⟨H3.out.1.grew kB, H3.out.2.1.trans (Kp.of_below H3.out.1.lt kB), hc, H3.out.2.2.later kB, kX2, by omega, ⟨HN.out.1, HN.out.2, rfl, rfl, OwnG.mono (OG.out.1.later kB) (by omega), OwnG.mono (OG.out.2.later kB) (by omega), own_noneG KBy _ _ _, (fun _ h => by cases h), own_noneG KEn _ _ _, (fun _ h => by cases h), (fun q hq => by have := (OwnG.lt OG.out.1 q hq).2; omega), (fun q hq => by have := (OwnG.lt OG.out.2 q hq).2; omega), (fun q hq => by cases hq), (fun q hq => by cases hq)⟩⟩
  clear kB kX kX2 H3 OG HN
  generalize w3.heap.size = kb at *
  refine (l1Once_any c a len cap 3 _ H4.out.cur).mono ?_
  rintro e w5 ⟨⟨Bb, rfl⟩, hC5, hK5⟩
  have H5 := hidP (H4.out.keep hC5 hK5)
  clear hC5 hK5 H4 hS1 hS2 hS3
  cases Bb
  · have HX := H5
    have HC0 : Hid (BsOk 0 0 0 ∧ (0 : Int) ≤ 1) := hidP ⟨Or.inl ⟨rfl, rfl, rfl⟩, by omega⟩
    clear H5
    go_wp2_with fail
    refine (l1Below_any c a len cap M _ HX.out.cur).mono ?_
    rintro e wz ⟨⟨z, z0, z9, rfl⟩, hCz, hKz⟩
    have HZ := hidP (HX.out.keep hCz hKz)
    have z8 := z9 (by omega)
    obtain ⟨zi, rfl⟩ := Int.eq_ofNat_of_zero_le z0
    clear hCz hKz z9 z0 HX
    go_wp2_with fail
    go_loopw [6, 7] (fun t6 t7 wr => ∃ (i : Nat) (t : Int) (k : Kv), t7 = .int .i64 i ∧ t6 = .int .i64 t ∧ LpI w wr c a len cap kb ⟨0, 0, 0, 0, g1, np, h1, g2, nb, h2, none, 0, 0, none, 0, 0, ps, bs, []⟩ k [] i t) (fun _ t7 _ => (intOf t7).toNat)
    case atStart => exact ⟨zi, 1, ⟨0, 0, 0, 0, g1, np, h1, g2, nb, h2, none, 0, 0, none, 0, 0, ps, bs, []⟩, rfl, rfl, ⟨HZ.out, by show 0 + zi ≤ 7; omega, by omega, by omega, rfl, rfl, rfl, rfl, rfl, rfl, rfl, HC0.out.2, rfl, HC0.out.2⟩⟩
    case round =>
      obtain ⟨i, t, k, rfl, rfl, hL⟩ := hrel
      have HL0 := hidP hL
      have t0 := hL.t0
      have t1 := hL.t1
      clear hL HZ
      obtain ⟨T, V, B, E0, ga, gn, gc, ha, hn, hc, sa, sn, sc, la, ln, lc, ps', bs', es⟩ := k
      by_cases hlt : 0 < i
      · have dg1 : decide ((i : Int) > 0) = true := decide_eq_true (by omega)
        have dg2 : decide ((0 : Int) < (i : Int)) = true := dg1
        go_wp2_with fail
        refine (l1Once_any c a len cap 4 _ HL0.out.kd.cur).mono ?_
        rintro e X5 ⟨⟨Bo, rfl⟩, hC5, hK5⟩
        have HL : Hid (LpI w X5 c a len cap kb ⟨0, 0, 0, 0, g1, np, h1, g2, nb, h2, none, 0, 0, none, 0, 0, ps, bs, []⟩ ⟨T, V, B, E0, ga, gn, gc, ha, hn, hc, sa, sn, sc, la, ln, lc, ps', bs', es⟩ [] i t) := hidP { HL0.out with kd := HL0.out.kd.keep hC5 hK5 }
        clear hC5 hK5 HL0
        cases Bo
        · have c7 := HL.out.kd.bx.k8.2.2.2.2.2.2.2
          simp only at c7
          go_wp2_with fail
          refine wp_region_held_drew (S := (fun _ => True)) (by kernel_rfl) trivial (fun hHeld => ?_)
          have hXd := (Below.refl X5.heap.size X5).drew
          have HLd := hidP (HL.out.kd.below hXd)
          have c7d := HLd.out.bx.k8.2.2.2.2.2.2.2
          simp only at c7d
          have hXs : w.heap.size + 1 ≤ X5.drew.heap.size := HL.out.kd.rs.lt
          have hXk : kb < X5.drew.heap.size := HL.out.kd.bx.lt
          clear hXd c7
          generalize X5.drew = X6 at *
          refine tk 0 38 rfl ?_
          simp only [pa]
          refine tk 2 40 rfl ?_
          simp only [pa]
          refine tk 3 41 rfl ?_
          simp only [pa]
          refine wpAnyH_ready (rs := [1, 4]) (by kernel_rfl) (by simp) ?_
          refine AllReadyH.cons rfl (fun K hK => ?_) (AllReadyH.cons rfl (fun K hK => ?_) AllReadyH.nil)
          · go_simp
            refine hK.out _ _ trivial (fun hHeld => ?_)
            clear hK K
            refine wpAnyH_ready (rs := [4]) (by kernel_rfl) (by simp) ?_
            refine AllReadyH.cons rfl (fun K hK => ?_) AllReadyH.nil
            go_simp
            go_wp2_with (first | (go_at_call 60; refine (l13Entry_ok c a len cap (t) (by omega) (by omega) _ HLd.out.cur).mono ?_; rintro e w6 ⟨⟨E, rfl, hE6⟩, hC6, hK6⟩; have HE6 := hidP (And.intro hE6 (And.intro hC6 hK6)); clear hE6 hC6 hK6))
            have HL6 := hidP (HLd.out.keep HE6.out.2.1 HE6.out.2.2)
            have HEn : Hid (EnS w6 (w.heap.size + 1) kb E) := hidP ⟨HE6.out.1.2.2.1, HE6.out.1.2.2.2.1, En.ok_n HE6.out.1.2.1 HE6.out.1.2.2.1, OwnG.mono HE6.out.1.2.2.2.2 hXs, fun q hq => by have h1 := (OwnG.lt HE6.out.1.2.2.2.2 q hq).1; omega⟩
            have HEk := hidP (And.intro HE6.out.1.1 HE6.out.1.2.1)
            have c76 := HL6.out.bx.k8.2.2.2.2.2.2.2
            simp only at c76
            clear HE6 hXs hXk
            refine hK.out _ _ trivial (fun hHeld => ?_)
            clear hK K
            refine wpAnyH_ready (rs := [5]) (by kernel_rfl) (by simp) ?_
            refine AllReadyH.cons rfl (fun K hK => ?_) AllReadyH.nil
            go_simp
            have sB := alloc_below w6 (.cells #[.int .i64 E.T, .int .i64 E.K, .slice E.a E.n E.c] 65)
            have sO : OwnG KEn 65 (w6.alloc (.cells #[.int .i64 E.T, .int .i64 E.K, .slice E.a E.n E.c] 65)) (w.heap.size + 1) (.slice (some ⟨w6.heap.size, 0, none⟩) 1 1) [E] := own_oneG KEn w6 (w.heap.size + 1) 65 E (by have := HL6.out.rs.lt; omega)
            generalize w6.alloc (.cells #[.int .i64 E.T, .int .i64 E.K, .slice E.a E.n E.c] 65) = w7 at *
            have HL7 := hidP (HL6.out.below sB)
            have HE7 : Hid (EnS w7 (w.heap.size + 1) kb E) := hidP ⟨HEn.out.hn, HEn.out.ho, HEn.out.n4, HEn.out.own.later sB, HEn.out.nk⟩
            have HS7 := hidP (src_rowG Try.tyEn.1 1 1 (by show 0 < 3; omega) rfl sO.row (fun h => by cases h))
            have c77 := HL7.out.bx.k8.2.2.2.2.2.2.2
            simp only at c77
            clear sO sB
            refine hK.out _ _ trivial (fun hHeld => ?_)
            clear hK K
            refine wpAnyH_ready (rs := [6]) (by kernel_rfl) (by simp) ?_
            refine AllReadyH.cons rfl (fun K hK => ?_) AllReadyH.nil
            refine step_appG Try.tyEn _ rfl (.tmp 39) (.tmp 43) 27 rfl (w.heap.size + 1) la ln lc 1 es [E] (.slice (some ⟨w6.heap.size, 0, none⟩) 1 1) rfl HL7.out.kr.hl rfl HL7.out.kr.ol rfl HS7.out (by have h1 := HL.out.i7; have h2 := HL7.out.kr.hl; simp only at h1 h2; omega) (by have := HL7.out.rs.lt; omega) ?_
            intro a8 c8 w8 ho8 hg8 ht8
            have HG8 := hidP (HL7.out.grown hg8)
            have HK8 := hidP (And.intro ho8 (And.intro hg8 ht8))
            clear ho8 hg8 ht8
            refine hK.out _ _ trivial (fun hHeld => ?_)
            clear hK K
            refine tk 7 45 rfl ?_
            simp only [Act.put, List.setIfInBounds_toArray]
            refine wpAnyH_ready (rs := [8]) (by kernel_rfl) (by simp) ?_
            refine AllReadyH.cons rfl (fun K hK => ?_) AllReadyH.nil
            have d8 := HG8.out.2.2.2.k8.2.2.2.2.2.2.2
            simp only at d8
            have d9 := HG8.out.2.2.2.frz
            have dL := HG8.out.2.2.2.lt
            go_simp
            have HN8 : Hid (KD w (w8.setCell ⟨kb, 7, none⟩ (.slice a8 (ln + 1) c8)) c a len cap kb ⟨T, V, B, E0, ga, gn, gc, ha, hn, hc, sa, sn, sc, a8, ln + 1, c8, ps', bs', es ++ [E]⟩ []) := by
              have hr := KR.app14 HL7.out HK8.out.2.1 HK8.out.1 HK8.out.2.2 HE7.out
              have l1 := HL7.out.hc
              have l2 := HL7.out.lt
              exact hidP ⟨HG8.out.1.far (by omega) _, HG8.out.2.1.setNew l1 (by omega) _, l1, HG8.out.2.2.1.far (by omega) _, HG8.out.2.2.2.set 7 _ _ rfl, l2, hr.set 7 _⟩
            refine hK.out _ _ trivial (fun hHeld => ?_)
            clear hK K
            refine wpAnyH_done (by kernel_rfl) ?_ _
            clear hHeld d8 d9
            go_wp2_with fail
            go_roundw
            case rel => exact ⟨i - 1, t, ⟨T, V, B, E0, ga, gn, gc, ha, hn, hc, sa, sn, sc, a8, ln + 1, c8, ps', bs', es ++ [E]⟩, by go_num, rfl, lp_step HL.out hlt HEk.out.1 HEk.out.2 (by omega) (by omega) HN8.out⟩
            case measure => simp [intOf]; omega
          · go_simp
            go_wp2_with (first | (go_at_call 60; refine (l13Entry_ok c a len cap (t) (by omega) (by omega) _ HLd.out.cur).mono ?_; rintro e w6 ⟨⟨E, rfl, hE6⟩, hC6, hK6⟩; have HE6 := hidP (And.intro hE6 (And.intro hC6 hK6)); clear hE6 hC6 hK6))
            have HL6 := hidP (HLd.out.keep HE6.out.2.1 HE6.out.2.2)
            have HEn : Hid (EnS w6 (w.heap.size + 1) kb E) := hidP ⟨HE6.out.1.2.2.1, HE6.out.1.2.2.2.1, En.ok_n HE6.out.1.2.1 HE6.out.1.2.2.1, OwnG.mono HE6.out.1.2.2.2.2 hXs, fun q hq => by have h1 := (OwnG.lt HE6.out.1.2.2.2.2 q hq).1; omega⟩
            have HEk := hidP (And.intro HE6.out.1.1 HE6.out.1.2.1)
            have c76 := HL6.out.bx.k8.2.2.2.2.2.2.2
            simp only at c76
            clear HE6 hXs hXk
            refine hK.out _ _ trivial (fun hHeld => ?_)
            clear hK K
            refine wpAnyH_ready (rs := [1, 5]) (by kernel_rfl) (by simp) ?_
            refine AllReadyH.cons rfl (fun K hK => ?_) (AllReadyH.cons rfl (fun K hK => ?_) AllReadyH.nil)
            · go_simp
              refine hK.out _ _ trivial (fun hHeld => ?_)
              clear hK K
              refine wpAnyH_ready (rs := [5]) (by kernel_rfl) (by simp) ?_
              refine AllReadyH.cons rfl (fun K hK => ?_) AllReadyH.nil
              go_simp
              have sB := alloc_below w6 (.cells #[.int .i64 E.T, .int .i64 E.K, .slice E.a E.n E.c] 65)
              have sO : OwnG KEn 65 (w6.alloc (.cells #[.int .i64 E.T, .int .i64 E.K, .slice E.a E.n E.c] 65)) (w.heap.size + 1) (.slice (some ⟨w6.heap.size, 0, none⟩) 1 1) [E] := own_oneG KEn w6 (w.heap.size + 1) 65 E (by have := HL6.out.rs.lt; omega)
              generalize w6.alloc (.cells #[.int .i64 E.T, .int .i64 E.K, .slice E.a E.n E.c] 65) = w7 at *
              have HL7 := hidP (HL6.out.below sB)
              have HE7 : Hid (EnS w7 (w.heap.size + 1) kb E) := hidP ⟨HEn.out.hn, HEn.out.ho, HEn.out.n4, HEn.out.own.later sB, HEn.out.nk⟩
              have HS7 := hidP (src_rowG Try.tyEn.1 1 1 (by show 0 < 3; omega) rfl sO.row (fun h => by cases h))
              have c77 := HL7.out.bx.k8.2.2.2.2.2.2.2
              simp only at c77
              clear sO sB
              refine hK.out _ _ trivial (fun hHeld => ?_)
              clear hK K
              refine wpAnyH_ready (rs := [6]) (by kernel_rfl) (by simp) ?_
              refine AllReadyH.cons rfl (fun K hK => ?_) AllReadyH.nil
              refine step_appG Try.tyEn _ rfl (.tmp 39) (.tmp 43) 27 rfl (w.heap.size + 1) la ln lc 1 es [E] (.slice (some ⟨w6.heap.size, 0, none⟩) 1 1) rfl HL7.out.kr.hl rfl HL7.out.kr.ol rfl HS7.out (by have h1 := HL.out.i7; have h2 := HL7.out.kr.hl; simp only at h1 h2; omega) (by have := HL7.out.rs.lt; omega) ?_
              intro a8 c8 w8 ho8 hg8 ht8
              have HG8 := hidP (HL7.out.grown hg8)
              have HK8 := hidP (And.intro ho8 (And.intro hg8 ht8))
              clear ho8 hg8 ht8
              refine hK.out _ _ trivial (fun hHeld => ?_)
              clear hK K
              refine tk 7 45 rfl ?_
              simp only [Act.put, List.setIfInBounds_toArray]
              refine wpAnyH_ready (rs := [8]) (by kernel_rfl) (by simp) ?_
              refine AllReadyH.cons rfl (fun K hK => ?_) AllReadyH.nil
              have d8 := HG8.out.2.2.2.k8.2.2.2.2.2.2.2
              simp only at d8
              have d9 := HG8.out.2.2.2.frz
              have dL := HG8.out.2.2.2.lt
              go_simp
              have HN8 : Hid (KD w (w8.setCell ⟨kb, 7, none⟩ (.slice a8 (ln + 1) c8)) c a len cap kb ⟨T, V, B, E0, ga, gn, gc, ha, hn, hc, sa, sn, sc, a8, ln + 1, c8, ps', bs', es ++ [E]⟩ []) := by
                have hr := KR.app14 HL7.out HK8.out.2.1 HK8.out.1 HK8.out.2.2 HE7.out
                have l1 := HL7.out.hc
                have l2 := HL7.out.lt
                exact hidP ⟨HG8.out.1.far (by omega) _, HG8.out.2.1.setNew l1 (by omega) _, l1, HG8.out.2.2.1.far (by omega) _, HG8.out.2.2.2.set 7 _ _ rfl, l2, hr.set 7 _⟩
              refine hK.out _ _ trivial (fun hHeld => ?_)
              clear hK K
              refine wpAnyH_done (by kernel_rfl) ?_ _
              clear hHeld d8 d9
              go_wp2_with fail
              go_roundw
              case rel => exact ⟨i - 1, t, ⟨T, V, B, E0, ga, gn, gc, ha, hn, hc, sa, sn, sc, a8, ln + 1, c8, ps', bs', es ++ [E]⟩, by go_num, rfl, lp_step HL.out hlt HEk.out.1 HEk.out.2 (by omega) (by omega) HN8.out⟩
              case measure => simp [intOf]; omega
            · go_simp
              have sB := alloc_below w6 (.cells #[.int .i64 E.T, .int .i64 E.K, .slice E.a E.n E.c] 65)
              have sO : OwnG KEn 65 (w6.alloc (.cells #[.int .i64 E.T, .int .i64 E.K, .slice E.a E.n E.c] 65)) (w.heap.size + 1) (.slice (some ⟨w6.heap.size, 0, none⟩) 1 1) [E] := own_oneG KEn w6 (w.heap.size + 1) 65 E (by have := HL6.out.rs.lt; omega)
              generalize w6.alloc (.cells #[.int .i64 E.T, .int .i64 E.K, .slice E.a E.n E.c] 65) = w7 at *
              have HL7 := hidP (HL6.out.below sB)
              have HE7 : Hid (EnS w7 (w.heap.size + 1) kb E) := hidP ⟨HEn.out.hn, HEn.out.ho, HEn.out.n4, HEn.out.own.later sB, HEn.out.nk⟩
              have HS7 := hidP (src_rowG Try.tyEn.1 1 1 (by show 0 < 3; omega) rfl sO.row (fun h => by cases h))
              have c77 := HL7.out.bx.k8.2.2.2.2.2.2.2
              simp only at c77
              clear sO sB
              refine hK.out _ _ trivial (fun hHeld => ?_)
              clear hK K
              refine wpAnyH_ready (rs := [1]) (by kernel_rfl) (by simp) ?_
              refine AllReadyH.cons rfl (fun K hK => ?_) AllReadyH.nil
              go_simp
              refine hK.out _ _ trivial (fun hHeld => ?_)
              clear hK K
              refine wpAnyH_ready (rs := [6]) (by kernel_rfl) (by simp) ?_
              refine AllReadyH.cons rfl (fun K hK => ?_) AllReadyH.nil
              refine step_appG Try.tyEn _ rfl (.tmp 39) (.tmp 43) 27 rfl (w.heap.size + 1) la ln lc 1 es [E] (.slice (some ⟨w6.heap.size, 0, none⟩) 1 1) rfl HL7.out.kr.hl rfl HL7.out.kr.ol rfl HS7.out (by have h1 := HL.out.i7; have h2 := HL7.out.kr.hl; simp only at h1 h2; omega) (by have := HL7.out.rs.lt; omega) ?_
              intro a8 c8 w8 ho8 hg8 ht8
              have HG8 := hidP (HL7.out.grown hg8)
              have HK8 := hidP (And.intro ho8 (And.intro hg8 ht8))
              clear ho8 hg8 ht8
              refine hK.out _ _ trivial (fun hHeld => ?_)
              clear hK K
              refine tk 7 45 rfl ?_
              simp only [Act.put, List.setIfInBounds_toArray]
              refine wpAnyH_ready (rs := [8]) (by kernel_rfl) (by simp) ?_
              refine AllReadyH.cons rfl (fun K hK => ?_) AllReadyH.nil
              have d8 := HG8.out.2.2.2.k8.2.2.2.2.2.2.2
              simp only at d8
              have d9 := HG8.out.2.2.2.frz
              have dL := HG8.out.2.2.2.lt
              go_simp
              have HN8 : Hid (KD w (w8.setCell ⟨kb, 7, none⟩ (.slice a8 (ln + 1) c8)) c a len cap kb ⟨T, V, B, E0, ga, gn, gc, ha, hn, hc, sa, sn, sc, a8, ln + 1, c8, ps', bs', es ++ [E]⟩ []) := by
                have hr := KR.app14 HL7.out HK8.out.2.1 HK8.out.1 HK8.out.2.2 HE7.out
                have l1 := HL7.out.hc
                have l2 := HL7.out.lt
                exact hidP ⟨HG8.out.1.far (by omega) _, HG8.out.2.1.setNew l1 (by omega) _, l1, HG8.out.2.2.1.far (by omega) _, HG8.out.2.2.2.set 7 _ _ rfl, l2, hr.set 7 _⟩
              refine hK.out _ _ trivial (fun hHeld => ?_)
              clear hK K
              refine wpAnyH_done (by kernel_rfl) ?_ _
              clear hHeld d8 d9
              go_wp2_with fail
              go_roundw
              case rel => exact ⟨i - 1, t, ⟨T, V, B, E0, ga, gn, gc, ha, hn, hc, sa, sn, sc, a8, ln + 1, c8, ps', bs', es ++ [E]⟩, by go_num, rfl, lp_step HL.out hlt HEk.out.1 HEk.out.2 (by omega) (by omega) HN8.out⟩
              case measure => simp [intOf]; omega
        · have c7 := HL.out.kd.bx.k8.2.2.2.2.2.2.2
          simp only at c7
          go_wp2_with fail
          refine wp_region_held_drew (S := (fun _ => True)) (by kernel_rfl) trivial (fun hHeld => ?_)
          have hXd := (Below.refl X5.heap.size X5).drew
          have HLd := hidP (HL.out.kd.below hXd)
          have c7d := HLd.out.bx.k8.2.2.2.2.2.2.2
          simp only at c7d
          have hXs : w.heap.size + 1 ≤ X5.drew.heap.size := HL.out.kd.rs.lt
          have hXk : kb < X5.drew.heap.size := HL.out.kd.bx.lt
          clear hXd c7
          generalize X5.drew = X6 at *
          refine tk 0 38 rfl ?_
          simp only [pa]
          refine tk 2 40 rfl ?_
          simp only [pa]
          refine tk 3 41 rfl ?_
          simp only [pa]
          refine wpAnyH_ready (rs := [1, 4]) (by kernel_rfl) (by simp) ?_
          refine AllReadyH.cons rfl (fun K hK => ?_) (AllReadyH.cons rfl (fun K hK => ?_) AllReadyH.nil)
          · go_simp
            refine hK.out _ _ trivial (fun hHeld => ?_)
            clear hK K
            refine wpAnyH_ready (rs := [4]) (by kernel_rfl) (by simp) ?_
            refine AllReadyH.cons rfl (fun K hK => ?_) AllReadyH.nil
            go_simp
            go_wp2_with (first | (go_at_call 60; refine (l13Entry_ok c a len cap (t + 1) (by omega) (by omega) _ HLd.out.cur).mono ?_; rintro e w6 ⟨⟨E, rfl, hE6⟩, hC6, hK6⟩; have HE6 := hidP (And.intro hE6 (And.intro hC6 hK6)); clear hE6 hC6 hK6))
            have HL6 := hidP (HLd.out.keep HE6.out.2.1 HE6.out.2.2)
            have HEn : Hid (EnS w6 (w.heap.size + 1) kb E) := hidP ⟨HE6.out.1.2.2.1, HE6.out.1.2.2.2.1, En.ok_n HE6.out.1.2.1 HE6.out.1.2.2.1, OwnG.mono HE6.out.1.2.2.2.2 hXs, fun q hq => by have h1 := (OwnG.lt HE6.out.1.2.2.2.2 q hq).1; omega⟩
            have HEk := hidP (And.intro HE6.out.1.1 HE6.out.1.2.1)
            have c76 := HL6.out.bx.k8.2.2.2.2.2.2.2
            simp only at c76
            clear HE6 hXs hXk
            refine hK.out _ _ trivial (fun hHeld => ?_)
            clear hK K
            refine wpAnyH_ready (rs := [5]) (by kernel_rfl) (by simp) ?_
            refine AllReadyH.cons rfl (fun K hK => ?_) AllReadyH.nil
            go_simp
            have sB := alloc_below w6 (.cells #[.int .i64 E.T, .int .i64 E.K, .slice E.a E.n E.c] 65)
            have sO : OwnG KEn 65 (w6.alloc (.cells #[.int .i64 E.T, .int .i64 E.K, .slice E.a E.n E.c] 65)) (w.heap.size + 1) (.slice (some ⟨w6.heap.size, 0, none⟩) 1 1) [E] := own_oneG KEn w6 (w.heap.size + 1) 65 E (by have := HL6.out.rs.lt; omega)
            generalize w6.alloc (.cells #[.int .i64 E.T, .int .i64 E.K, .slice E.a E.n E.c] 65) = w7 at *
            have HL7 := hidP (HL6.out.below sB)
            have HE7 : Hid (EnS w7 (w.heap.size + 1) kb E) := hidP ⟨HEn.out.hn, HEn.out.ho, HEn.out.n4, HEn.out.own.later sB, HEn.out.nk⟩
            have HS7 := hidP (src_rowG Try.tyEn.1 1 1 (by show 0 < 3; omega) rfl sO.row (fun h => by cases h))
            have c77 := HL7.out.bx.k8.2.2.2.2.2.2.2
            simp only at c77
            clear sO sB
            refine hK.out _ _ trivial (fun hHeld => ?_)
            clear hK K
            refine wpAnyH_ready (rs := [6]) (by kernel_rfl) (by simp) ?_
            refine AllReadyH.cons rfl (fun K hK => ?_) AllReadyH.nil
            refine step_appG Try.tyEn _ rfl (.tmp 39) (.tmp 43) 27 rfl (w.heap.size + 1) la ln lc 1 es [E] (.slice (some ⟨w6.heap.size, 0, none⟩) 1 1) rfl HL7.out.kr.hl rfl HL7.out.kr.ol rfl HS7.out (by have h1 := HL.out.i7; have h2 := HL7.out.kr.hl; simp only at h1 h2; omega) (by have := HL7.out.rs.lt; omega) ?_
            intro a8 c8 w8 ho8 hg8 ht8
            have HG8 := hidP (HL7.out.grown hg8)
            have HK8 := hidP (And.intro ho8 (And.intro hg8 ht8))
            clear ho8 hg8 ht8
            refine hK.out _ _ trivial (fun hHeld => ?_)
            clear hK K
            refine tk 7 45 rfl ?_
            simp only [Act.put, List.setIfInBounds_toArray]
            refine wpAnyH_ready (rs := [8]) (by kernel_rfl) (by simp) ?_
            refine AllReadyH.cons rfl (fun K hK => ?_) AllReadyH.nil
            have d8 := HG8.out.2.2.2.k8.2.2.2.2.2.2.2
            simp only at d8
            have d9 := HG8.out.2.2.2.frz
            have dL := HG8.out.2.2.2.lt
            go_simp
            have HN8 : Hid (KD w (w8.setCell ⟨kb, 7, none⟩ (.slice a8 (ln + 1) c8)) c a len cap kb ⟨T, V, B, E0, ga, gn, gc, ha, hn, hc, sa, sn, sc, a8, ln + 1, c8, ps', bs', es ++ [E]⟩ []) := by
              have hr := KR.app14 HL7.out HK8.out.2.1 HK8.out.1 HK8.out.2.2 HE7.out
              have l1 := HL7.out.hc
              have l2 := HL7.out.lt
              exact hidP ⟨HG8.out.1.far (by omega) _, HG8.out.2.1.setNew l1 (by omega) _, l1, HG8.out.2.2.1.far (by omega) _, HG8.out.2.2.2.set 7 _ _ rfl, l2, hr.set 7 _⟩
            refine hK.out _ _ trivial (fun hHeld => ?_)
            clear hK K
            refine wpAnyH_done (by kernel_rfl) ?_ _
            clear hHeld d8 d9
            go_wp2_with fail
            go_roundw
            case rel => exact ⟨i - 1, t + 1, ⟨T, V, B, E0, ga, gn, gc, ha, hn, hc, sa, sn, sc, a8, ln + 1, c8, ps', bs', es ++ [E]⟩, by go_num, rfl, lp_step HL.out hlt HEk.out.1 HEk.out.2 (by omega) (by omega) HN8.out⟩
            case measure => simp [intOf]; omega
          · go_simp
            go_wp2_with (first | (go_at_call 60; refine (l13Entry_ok c a len cap (t + 1) (by omega) (by omega) _ HLd.out.cur).mono ?_; rintro e w6 ⟨⟨E, rfl, hE6⟩, hC6, hK6⟩; have HE6 := hidP (And.intro hE6 (And.intro hC6 hK6)); clear hE6 hC6 hK6))
            have HL6 := hidP (HLd.out.keep HE6.out.2.1 HE6.out.2.2)
            have HEn : Hid (EnS w6 (w.heap.size + 1) kb E) := hidP ⟨HE6.out.1.2.2.1, HE6.out.1.2.2.2.1, En.ok_n HE6.out.1.2.1 HE6.out.1.2.2.1, OwnG.mono HE6.out.1.2.2.2.2 hXs, fun q hq => by have h1 := (OwnG.lt HE6.out.1.2.2.2.2 q hq).1; omega⟩
            have HEk := hidP (And.intro HE6.out.1.1 HE6.out.1.2.1)
            have c76 := HL6.out.bx.k8.2.2.2.2.2.2.2
            simp only at c76
            clear HE6 hXs hXk
            refine hK.out _ _ trivial (fun hHeld => ?_)
            clear hK K
            refine wpAnyH_ready (rs := [1, 5]) (by kernel_rfl) (by simp) ?_
            refine AllReadyH.cons rfl (fun K hK => ?_) (AllReadyH.cons rfl (fun K hK => ?_) AllReadyH.nil)
            · go_simp
              refine hK.out _ _ trivial (fun hHeld => ?_)
              clear hK K
              refine wpAnyH_ready (rs := [5]) (by kernel_rfl) (by simp) ?_
              refine AllReadyH.cons rfl (fun K hK => ?_) AllReadyH.nil
              go_simp
              have sB := alloc_below w6 (.cells #[.int .i64 E.T, .int .i64 E.K, .slice E.a E.n E.c] 65)
              have sO : OwnG KEn 65 (w6.alloc (.cells #[.int .i64 E.T, .int .i64 E.K, .slice E.a E.n E.c] 65)) (w.heap.size + 1) (.slice (some ⟨w6.heap.size, 0, none⟩) 1 1) [E] := own_oneG KEn w6 (w.heap.size + 1) 65 E (by have := HL6.out.rs.lt; omega)
              generalize w6.alloc (.cells #[.int .i64 E.T, .int .i64 E.K, .slice E.a E.n E.c] 65) = w7 at *
              have HL7 := hidP (HL6.out.below sB)
              have HE7 : Hid (EnS w7 (w.heap.size + 1) kb E) := hidP ⟨HEn.out.hn, HEn.out.ho, HEn.out.n4, HEn.out.own.later sB, HEn.out.nk⟩
              have HS7 := hidP (src_rowG Try.tyEn.1 1 1 (by show 0 < 3; omega) rfl sO.row (fun h => by cases h))
              have c77 := HL7.out.bx.k8.2.2.2.2.2.2.2
              simp only at c77
              clear sO sB
              refine hK.out _ _ trivial (fun hHeld => ?_)
              clear hK K
              refine wpAnyH_ready (rs := [6]) (by kernel_rfl) (by simp) ?_
              refine AllReadyH.cons rfl (fun K hK => ?_) AllReadyH.nil
              refine step_appG Try.tyEn _ rfl (.tmp 39) (.tmp 43) 27 rfl (w.heap.size + 1) la ln lc 1 es [E] (.slice (some ⟨w6.heap.size, 0, none⟩) 1 1) rfl HL7.out.kr.hl rfl HL7.out.kr.ol rfl HS7.out (by have h1 := HL.out.i7; have h2 := HL7.out.kr.hl; simp only at h1 h2; omega) (by have := HL7.out.rs.lt; omega) ?_
              intro a8 c8 w8 ho8 hg8 ht8
              have HG8 := hidP (HL7.out.grown hg8)
              have HK8 := hidP (And.intro ho8 (And.intro hg8 ht8))
              clear ho8 hg8 ht8
              refine hK.out _ _ trivial (fun hHeld => ?_)
              clear hK K
              refine tk 7 45 rfl ?_
              simp only [Act.put, List.setIfInBounds_toArray]
              refine wpAnyH_ready (rs := [8]) (by kernel_rfl) (by simp) ?_
              refine AllReadyH.cons rfl (fun K hK => ?_) AllReadyH.nil
              have d8 := HG8.out.2.2.2.k8.2.2.2.2.2.2.2
              simp only at d8
              have d9 := HG8.out.2.2.2.frz
              have dL := HG8.out.2.2.2.lt
              go_simp
              have HN8 : Hid (KD w (w8.setCell ⟨kb, 7, none⟩ (.slice a8 (ln + 1) c8)) c a len cap kb ⟨T, V, B, E0, ga, gn, gc, ha, hn, hc, sa, sn, sc, a8, ln + 1, c8, ps', bs', es ++ [E]⟩ []) := by
                have hr := KR.app14 HL7.out HK8.out.2.1 HK8.out.1 HK8.out.2.2 HE7.out
                have l1 := HL7.out.hc
                have l2 := HL7.out.lt
                exact hidP ⟨HG8.out.1.far (by omega) _, HG8.out.2.1.setNew l1 (by omega) _, l1, HG8.out.2.2.1.far (by omega) _, HG8.out.2.2.2.set 7 _ _ rfl, l2, hr.set 7 _⟩
              refine hK.out _ _ trivial (fun hHeld => ?_)
              clear hK K
              refine wpAnyH_done (by kernel_rfl) ?_ _
              clear hHeld d8 d9
              go_wp2_with fail
              go_roundw
              case rel => exact ⟨i - 1, t + 1, ⟨T, V, B, E0, ga, gn, gc, ha, hn, hc, sa, sn, sc, a8, ln + 1, c8, ps', bs', es ++ [E]⟩, by go_num, rfl, lp_step HL.out hlt HEk.out.1 HEk.out.2 (by omega) (by omega) HN8.out⟩
              case measure => simp [intOf]; omega
            · go_simp
              have sB := alloc_below w6 (.cells #[.int .i64 E.T, .int .i64 E.K, .slice E.a E.n E.c] 65)
              have sO : OwnG KEn 65 (w6.alloc (.cells #[.int .i64 E.T, .int .i64 E.K, .slice E.a E.n E.c] 65)) (w.heap.size + 1) (.slice (some ⟨w6.heap.size, 0, none⟩) 1 1) [E] := own_oneG KEn w6 (w.heap.size + 1) 65 E (by have := HL6.out.rs.lt; omega)
              generalize w6.alloc (.cells #[.int .i64 E.T, .int .i64 E.K, .slice E.a E.n E.c] 65) = w7 at *
              have HL7 := hidP (HL6.out.below sB)
              have HE7 : Hid (EnS w7 (w.heap.size + 1) kb E) := hidP ⟨HEn.out.hn, HEn.out.ho, HEn.out.n4, HEn.out.own.later sB, HEn.out.nk⟩
              have HS7 := hidP (src_rowG Try.tyEn.1 1 1 (by show 0 < 3; omega) rfl sO.row (fun h => by cases h))
              have c77 := HL7.out.bx.k8.2.2.2.2.2.2.2
              simp only at c77
              clear sO sB
              refine hK.out _ _ trivial (fun hHeld => ?_)
              clear hK K
              refine wpAnyH_ready (rs := [1]) (by kernel_rfl) (by simp) ?_
              refine AllReadyH.cons rfl (fun K hK => ?_) AllReadyH.nil
              go_simp
              refine hK.out _ _ trivial (fun hHeld => ?_)
              clear hK K
              refine wpAnyH_ready (rs := [6]) (by kernel_rfl) (by simp) ?_
              refine AllReadyH.cons rfl (fun K hK => ?_) AllReadyH.nil
              refine step_appG Try.tyEn _ rfl (.tmp 39) (.tmp 43) 27 rfl (w.heap.size + 1) la ln lc 1 es [E] (.slice (some ⟨w6.heap.size, 0, none⟩) 1 1) rfl HL7.out.kr.hl rfl HL7.out.kr.ol rfl HS7.out (by have h1 := HL.out.i7; have h2 := HL7.out.kr.hl; simp only at h1 h2; omega) (by have := HL7.out.rs.lt; omega) ?_
              intro a8 c8 w8 ho8 hg8 ht8
              have HG8 := hidP (HL7.out.grown hg8)
              have HK8 := hidP (And.intro ho8 (And.intro hg8 ht8))
              clear ho8 hg8 ht8
              refine hK.out _ _ trivial (fun hHeld => ?_)
              clear hK K
              refine tk 7 45 rfl ?_
              simp only [Act.put, List.setIfInBounds_toArray]
              refine wpAnyH_ready (rs := [8]) (by kernel_rfl) (by simp) ?_
              refine AllReadyH.cons rfl (fun K hK => ?_) AllReadyH.nil
              have d8 := HG8.out.2.2.2.k8.2.2.2.2.2.2.2
              simp only at d8
              have d9 := HG8.out.2.2.2.frz
              have dL := HG8.out.2.2.2.lt
              go_simp
              have HN8 : Hid (KD w (w8.setCell ⟨kb, 7, none⟩ (.slice a8 (ln + 1) c8)) c a len cap kb ⟨T, V, B, E0, ga, gn, gc, ha, hn, hc, sa, sn, sc, a8, ln + 1, c8, ps', bs', es ++ [E]⟩ []) := by
                have hr := KR.app14 HL7.out HK8.out.2.1 HK8.out.1 HK8.out.2.2 HE7.out
                have l1 := HL7.out.hc
                have l2 := HL7.out.lt
                exact hidP ⟨HG8.out.1.far (by omega) _, HG8.out.2.1.setNew l1 (by omega) _, l1, HG8.out.2.2.1.far (by omega) _, HG8.out.2.2.2.set 7 _ _ rfl, l2, hr.set 7 _⟩
              refine hK.out _ _ trivial (fun hHeld => ?_)
              clear hK K
              refine wpAnyH_done (by kernel_rfl) ?_ _
              clear hHeld d8 d9
              go_wp2_with fail
              go_roundw
              case rel => exact ⟨i - 1, t + 1, ⟨T, V, B, E0, ga, gn, gc, ha, hn, hc, sa, sn, sc, a8, ln + 1, c8, ps', bs', es ++ [E]⟩, by go_num, rfl, lp_step HL.out hlt HEk.out.1 HEk.out.2 (by omega) (by omega) HN8.out⟩
              case measure => simp [intOf]; omega
      · have dg1 : decide ((i : Int) > 0) = false := decide_eq_false (by omega)
        have dg2 : decide ((0 : Int) < (i : Int)) = false := dg1
        go_wp2_with fail
        refine (l1Below_any c a len cap 2 _ HL0.out.kd.cur).mono ?_
        rintro e X6 ⟨⟨x, x0, x9, rfl⟩, hC6, hK6⟩
        have x8 := x9 (by omega)
        have H6 := hidP (HL0.out.kd.keep hC6 hK6)
        clear hC6 hK6 x9
        have c6 := H6.out.bx.k8
        have f6 := H6.out.bx.frz
        obtain ⟨c60, c61, c62, c63, c64, c65, c66, c67⟩ := c6
        go_wp2_with fail
        have H7 := hidP (H6.out.put (k' := ⟨t + x, V, B, E0, ga, gn, gc, ha, hn, hc, sa, sn, sc, la, ln, lc, ps', bs', es⟩) 0 _ (.int .i64 (t + x)) rfl rfl (H6.out.kr.ints (t + x) V B E0))
        clear c60 c61 c62 c63 c64 c65 c66 c67 f6
        generalize X6.setCell ⟨kb, 0, none⟩ (.int .i64 (t + x)) = X7 at *
        refine (l1Below_any c a len cap 4 _ H7.out.cur).mono ?_
        rintro e X8 ⟨⟨y, y0, y9, rfl⟩, hC8, hK8⟩
        have y8 := y9 (by omega)
        have H8 := hidP (H7.out.keep hC8 hK8)
        clear hC8 hK8 y9 H7 H6
        obtain ⟨c80, c81, c82, c83, c84, c85, c86, c87⟩ := H8.out.bx.k8
        have f8 := H8.out.bx.frz
        have r80 := H8.out.rs.cel 0 _ rfl
        have r81 := H8.out.rs.cel 1 _ rfl
        have r82 := H8.out.rs.cel 2 _ rfl
        have r83 := H8.out.rs.cel 3 _ rfl
        have r84 := H8.out.rs.cel 4 _ rfl
        have r85 := H8.out.rs.cel 5 _ rfl
        have r86 := H8.out.rs.cel 6 _ rfl
        have r87 := H8.out.rs.cel 7 _ rfl
        have s8 := H8.out.rs.frz
        have n8 : w.heap.size ≠ kb := by have := H8.out.lt; omega
        go_wp2_with fail
        have H9 := H8.out.put (k' := ⟨t + x, y, B, E0, ga, gn, gc, ha, hn, hc, sa, sn, sc, la, ln, lc, ps', bs', es⟩) 1 _ (.int .i64 y) rfl rfl (H8.out.kr.ints (t + x) y B E0)
        have hi0 : i = 0 := by omega
        refine bodyPost_ret (v := Kv.v ⟨t + x, y, B, E0, ga, gn, gc, ha, hn, hc, sa, sn, sc, la, ln, lc, ps', bs', es⟩) (by simp [results, Try.results22, go_sem, r80, r81, r82, r83, r84, r85, r86, r87]) rfl (draw_fin HL0.out H9 hi0 HM.out HC0.out.1 (by assumption) (by assumption) (by assumption) (by assumption))
  · go_wp2_with fail
    refine (l1Below_any c a len cap 3 _ H5.out.cur).mono ?_
    rintro e w6 ⟨⟨x, x0, x9, rfl⟩, hC6, hK6⟩
    have H6 := hidP (H5.out.keep hC6 hK6)
    have x8 := x9 (by omega)
    clear hC6 hK6 x9 H5
    go_wp2_with fail
    refine (l1Below_any c a len cap 8 _ H6.out.cur).mono ?_
    rintro e w7 ⟨⟨y, y0, y9, rfl⟩, hC7, hK7⟩
    have H7 := hidP (H6.out.keep hC7 hK7)
    have y8 := y9 (by omega)
    clear hC7 hK7 y9 H6
    obtain ⟨c70, c71, c72, c73, c74, c75, c76, c77⟩ := H7.out.bx.k8
    have f7 := H7.out.bx.frz
    go_wp2_with fail
    have H8 := hidP ((H7.out.put (k' := ⟨0, 0, 1 + y, 0, g1, np, h1, g2, nb, h2, none, 0, 0, none, 0, 0, ps, bs, []⟩) 2 _ (.int .i64 (1 + y)) rfl rfl (H7.out.kr.ints 0 0 (1 + y) 0)).put (k' := ⟨0, 0, 1 + y, 1 + x, g1, np, h1, g2, nb, h2, none, 0, 0, none, 0, 0, ps, bs, []⟩) 3 _ (.int .i64 (1 + x)) rfl rfl ((H7.out.kr.ints 0 0 (1 + y) (1 + x)).set 2 _))
    clear c70 c71 c72 c73 c74 c75 c76 c77 f7 H7
    generalize (w7.setCell ⟨kb, 2, none⟩ (.int .i64 (1 + y))).setCell ⟨kb, 3, none⟩ (.int .i64 (1 + x)) = w8 at *
    refine (l1Below_any c a len cap 5 _ H8.out.cur).mono ?_
    rintro e w9 ⟨⟨z, z0, z9, rfl⟩, hC9, hK9⟩
    have H9 := hidP (H8.out.keep hC9 hK9)
    have z8 := z9 (by omega)
    obtain ⟨sN, rfl⟩ := Int.eq_ofNat_of_zero_le z0
    clear hC9 hK9 z9 H8
    go_wp2_with fail
    refine (l1Bytes_any c a len cap sN (by omega) _ H9.out.cur).mono ?_
    rintro e wa ⟨⟨sg, scp, ss, hz, hoz, rfl, oa⟩, hCa, hKa⟩
    have HA := hidP (H9.out.keep hCa hKa)
    have OA : Hid (OwnG KBy 5 wa (w.heap.size + 1) (.slice (some ⟨sg, 0, none⟩) sN scp) ss ∧ sg ≠ kb) := hidP ⟨OwnG.mono (own_by.2 oa) (by have := H9.out.rs.lt; omega), by have h1 := (OwnG.lt (own_by.2 oa) sg rfl).1; have h2 := H9.out.bx.lt; omega⟩
    have HO := hidP (And.intro hz hoz)
    clear hCa hKa oa hz hoz H9
    obtain ⟨c70, c71, c72, c73, c74, c75, c76, c77⟩ := HA.out.bx.k8
    have f7 := HA.out.bx.frz
    go_wp2_with fail
    have HX := hidP (HA.out.put (k' := ⟨0, 0, 1 + y, 1 + x, g1, np, h1, g2, nb, h2, some ⟨sg, 0, none⟩, sN, scp, none, 0, 0, ps, bs, []⟩) 6 _ (.slice (some ⟨sg, 0, none⟩) sN scp) rfl rfl (HA.out.kr.snap HO.out.1.symm HO.out.2 OA.out.1 (fun q hq => by have : sg = q := Option.some.inj hq; have := OA.out.2; omega)))
    have HC0 : Hid (BsOk (1 + y) (1 + x) sN ∧ (1 + x : Int) ≤ 1 + x) := hidP ⟨Or.inr ⟨by omega, by omega, by omega, by omega⟩, Int.le_refl _⟩
    clear c70 c71 c72 c73 c74 c75 c76 c77 f7 HA OA HO
    generalize wa.setCell ⟨kb, 6, none⟩ (.slice (some ⟨sg, 0, none⟩) sN scp) = wb at *
    refine (l1Below_any c a len cap M _ HX.out.cur).mono ?_
    rintro e wz ⟨⟨z, z0, z9, rfl⟩, hCz, hKz⟩
    have HZ := hidP (HX.out.keep hCz hKz)
    have z8 := z9 (by omega)
    obtain ⟨zi, rfl⟩ := Int.eq_ofNat_of_zero_le z0
    clear hCz hKz z9 z0 HX
    go_wp2_with fail
    go_loopw [6, 7] (fun t6 t7 wr => ∃ (i : Nat) (t : Int) (k : Kv), t7 = .int .i64 i ∧ t6 = .int .i64 t ∧ LpI w wr c a len cap kb ⟨0, 0, 1 + y, 1 + x, g1, np, h1, g2, nb, h2, some ⟨sg, 0, none⟩, sN, scp, none, 0, 0, ps, bs, []⟩ k ss i t) (fun _ t7 _ => (intOf t7).toNat)
    case atStart => exact ⟨zi, 1 + x, ⟨0, 0, 1 + y, 1 + x, g1, np, h1, g2, nb, h2, some ⟨sg, 0, none⟩, sN, scp, none, 0, 0, ps, bs, []⟩, rfl, rfl, ⟨HZ.out, by show 0 + zi ≤ 7; omega, by omega, by omega, rfl, rfl, rfl, rfl, rfl, rfl, rfl, HC0.out.2, rfl, HC0.out.2⟩⟩
    case round =>
      obtain ⟨i, t, k, rfl, rfl, hL⟩ := hrel
      have HL0 := hidP hL
      have t0 := hL.t0
      have t1 := hL.t1
      clear hL HZ
      obtain ⟨T, V, B, E0, ga, gn, gc, ha, hn, hc, sa, sn, sc, la, ln, lc, ps', bs', es⟩ := k
      by_cases hlt : 0 < i
      · have dg1 : decide ((i : Int) > 0) = true := decide_eq_true (by omega)
        have dg2 : decide ((0 : Int) < (i : Int)) = true := dg1
        go_wp2_with fail
        refine (l1Once_any c a len cap 4 _ HL0.out.kd.cur).mono ?_
        rintro e X5 ⟨⟨Bo, rfl⟩, hC5, hK5⟩
        have HL : Hid (LpI w X5 c a len cap kb ⟨0, 0, 1 + y, 1 + x, g1, np, h1, g2, nb, h2, some ⟨sg, 0, none⟩, sN, scp, none, 0, 0, ps, bs, []⟩ ⟨T, V, B, E0, ga, gn, gc, ha, hn, hc, sa, sn, sc, la, ln, lc, ps', bs', es⟩ ss i t) := hidP { HL0.out with kd := HL0.out.kd.keep hC5 hK5 }
        clear hC5 hK5 HL0
        cases Bo
        · have c7 := HL.out.kd.bx.k8.2.2.2.2.2.2.2
          simp only at c7
          go_wp2_with fail
          refine wp_region_held_drew (S := (fun _ => True)) (by kernel_rfl) trivial (fun hHeld => ?_)
          have hXd := (Below.refl X5.heap.size X5).drew
          have HLd := hidP (HL.out.kd.below hXd)
          have c7d := HLd.out.bx.k8.2.2.2.2.2.2.2
          simp only at c7d
          have hXs : w.heap.size + 1 ≤ X5.drew.heap.size := HL.out.kd.rs.lt
          have hXk : kb < X5.drew.heap.size := HL.out.kd.bx.lt
          clear hXd c7
          generalize X5.drew = X6 at *
          refine tk 0 38 rfl ?_
          simp only [pa]
          refine tk 2 40 rfl ?_
          simp only [pa]
          refine tk 3 41 rfl ?_
          simp only [pa]
          refine wpAnyH_ready (rs := [1, 4]) (by kernel_rfl) (by simp) ?_
          refine AllReadyH.cons rfl (fun K hK => ?_) (AllReadyH.cons rfl (fun K hK => ?_) AllReadyH.nil)
          · go_simp
            refine hK.out _ _ trivial (fun hHeld => ?_)
            clear hK K
            refine wpAnyH_ready (rs := [4]) (by kernel_rfl) (by simp) ?_
            refine AllReadyH.cons rfl (fun K hK => ?_) AllReadyH.nil
            go_simp
            go_wp2_with (first | (go_at_call 60; refine (l13Entry_ok c a len cap (t) (by omega) (by omega) _ HLd.out.cur).mono ?_; rintro e w6 ⟨⟨E, rfl, hE6⟩, hC6, hK6⟩; have HE6 := hidP (And.intro hE6 (And.intro hC6 hK6)); clear hE6 hC6 hK6))
            have HL6 := hidP (HLd.out.keep HE6.out.2.1 HE6.out.2.2)
            have HEn : Hid (EnS w6 (w.heap.size + 1) kb E) := hidP ⟨HE6.out.1.2.2.1, HE6.out.1.2.2.2.1, En.ok_n HE6.out.1.2.1 HE6.out.1.2.2.1, OwnG.mono HE6.out.1.2.2.2.2 hXs, fun q hq => by have h1 := (OwnG.lt HE6.out.1.2.2.2.2 q hq).1; omega⟩
            have HEk := hidP (And.intro HE6.out.1.1 HE6.out.1.2.1)
            have c76 := HL6.out.bx.k8.2.2.2.2.2.2.2
            simp only at c76
            clear HE6 hXs hXk
            refine hK.out _ _ trivial (fun hHeld => ?_)
            clear hK K
            refine wpAnyH_ready (rs := [5]) (by kernel_rfl) (by simp) ?_
            refine AllReadyH.cons rfl (fun K hK => ?_) AllReadyH.nil
            go_simp
            have sB := alloc_below w6 (.cells #[.int .i64 E.T, .int .i64 E.K, .slice E.a E.n E.c] 65)
            have sO : OwnG KEn 65 (w6.alloc (.cells #[.int .i64 E.T, .int .i64 E.K, .slice E.a E.n E.c] 65)) (w.heap.size + 1) (.slice (some ⟨w6.heap.size, 0, none⟩) 1 1) [E] := own_oneG KEn w6 (w.heap.size + 1) 65 E (by have := HL6.out.rs.lt; omega)
            generalize w6.alloc (.cells #[.int .i64 E.T, .int .i64 E.K, .slice E.a E.n E.c] 65) = w7 at *
            have HL7 := hidP (HL6.out.below sB)
            have HE7 : Hid (EnS w7 (w.heap.size + 1) kb E) := hidP ⟨HEn.out.hn, HEn.out.ho, HEn.out.n4, HEn.out.own.later sB, HEn.out.nk⟩
            have HS7 := hidP (src_rowG Try.tyEn.1 1 1 (by show 0 < 3; omega) rfl sO.row (fun h => by cases h))
            have c77 := HL7.out.bx.k8.2.2.2.2.2.2.2
            simp only at c77
            clear sO sB
            refine hK.out _ _ trivial (fun hHeld => ?_)
            clear hK K
            refine wpAnyH_ready (rs := [6]) (by kernel_rfl) (by simp) ?_
            refine AllReadyH.cons rfl (fun K hK => ?_) AllReadyH.nil
            refine step_appG Try.tyEn _ rfl (.tmp 39) (.tmp 43) 27 rfl (w.heap.size + 1) la ln lc 1 es [E] (.slice (some ⟨w6.heap.size, 0, none⟩) 1 1) rfl HL7.out.kr.hl rfl HL7.out.kr.ol rfl HS7.out (by have h1 := HL.out.i7; have h2 := HL7.out.kr.hl; simp only at h1 h2; omega) (by have := HL7.out.rs.lt; omega) ?_
            intro a8 c8 w8 ho8 hg8 ht8
            have HG8 := hidP (HL7.out.grown hg8)
            have HK8 := hidP (And.intro ho8 (And.intro hg8 ht8))
            clear ho8 hg8 ht8
            refine hK.out _ _ trivial (fun hHeld => ?_)
            clear hK K
            refine tk 7 45 rfl ?_
            simp only [Act.put, List.setIfInBounds_toArray]
            refine wpAnyH_ready (rs := [8]) (by kernel_rfl) (by simp) ?_
            refine AllReadyH.cons rfl (fun K hK => ?_) AllReadyH.nil
            have d8 := HG8.out.2.2.2.k8.2.2.2.2.2.2.2
            simp only at d8
            have d9 := HG8.out.2.2.2.frz
            have dL := HG8.out.2.2.2.lt
            go_simp
            have HN8 : Hid (KD w (w8.setCell ⟨kb, 7, none⟩ (.slice a8 (ln + 1) c8)) c a len cap kb ⟨T, V, B, E0, ga, gn, gc, ha, hn, hc, sa, sn, sc, a8, ln + 1, c8, ps', bs', es ++ [E]⟩ ss) := by
              have hr := KR.app14 HL7.out HK8.out.2.1 HK8.out.1 HK8.out.2.2 HE7.out
              have l1 := HL7.out.hc
              have l2 := HL7.out.lt
              exact hidP ⟨HG8.out.1.far (by omega) _, HG8.out.2.1.setNew l1 (by omega) _, l1, HG8.out.2.2.1.far (by omega) _, HG8.out.2.2.2.set 7 _ _ rfl, l2, hr.set 7 _⟩
            refine hK.out _ _ trivial (fun hHeld => ?_)
            clear hK K
            refine wpAnyH_done (by kernel_rfl) ?_ _
            clear hHeld d8 d9
            go_wp2_with fail
            go_roundw
            case rel => exact ⟨i - 1, t, ⟨T, V, B, E0, ga, gn, gc, ha, hn, hc, sa, sn, sc, a8, ln + 1, c8, ps', bs', es ++ [E]⟩, by go_num, rfl, lp_step HL.out hlt HEk.out.1 HEk.out.2 (by omega) (by omega) HN8.out⟩
            case measure => simp [intOf]; omega
          · go_simp
            go_wp2_with (first | (go_at_call 60; refine (l13Entry_ok c a len cap (t) (by omega) (by omega) _ HLd.out.cur).mono ?_; rintro e w6 ⟨⟨E, rfl, hE6⟩, hC6, hK6⟩; have HE6 := hidP (And.intro hE6 (And.intro hC6 hK6)); clear hE6 hC6 hK6))
            have HL6 := hidP (HLd.out.keep HE6.out.2.1 HE6.out.2.2)
            have HEn : Hid (EnS w6 (w.heap.size + 1) kb E) := hidP ⟨HE6.out.1.2.2.1, HE6.out.1.2.2.2.1, En.ok_n HE6.out.1.2.1 HE6.out.1.2.2.1, OwnG.mono HE6.out.1.2.2.2.2 hXs, fun q hq => by have h1 := (OwnG.lt HE6.out.1.2.2.2.2 q hq).1; omega⟩
            have HEk := hidP (And.intro HE6.out.1.1 HE6.out.1.2.1)
            have c76 := HL6.out.bx.k8.2.2.2.2.2.2.2
            simp only at c76
            clear HE6 hXs hXk
            refine hK.out _ _ trivial (fun hHeld => ?_)
            clear hK K
            refine wpAnyH_ready (rs := [1, 5]) (by kernel_rfl) (by simp) ?_
            refine AllReadyH.cons rfl (fun K hK => ?_) (AllReadyH.cons rfl (fun K hK => ?_) AllReadyH.nil)
            · go_simp
              refine hK.out _ _ trivial (fun hHeld => ?_)
              clear hK K
              refine wpAnyH_ready (rs := [5]) (by kernel_rfl) (by simp) ?_
              refine AllReadyH.cons rfl (fun K hK => ?_) AllReadyH.nil
              go_simp
              have sB := alloc_below w6 (.cells #[.int .i64 E.T, .int .i64 E.K, .slice E.a E.n E.c] 65)
              have sO : OwnG KEn 65 (w6.alloc (.cells #[.int .i64 E.T, .int .i64 E.K, .slice E.a E.n E.c] 65)) (w.heap.size + 1) (.slice (some ⟨w6.heap.size, 0, none⟩) 1 1) [E] := own_oneG KEn w6 (w.heap.size + 1) 65 E (by have := HL6.out.rs.lt; omega)
              generalize w6.alloc (.cells #[.int .i64 E.T, .int .i64 E.K, .slice E.a E.n E.c] 65) = w7 at *
              have HL7 := hidP (HL6.out.below sB)
              have HE7 : Hid (EnS w7 (w.heap.size + 1) kb E) := hidP ⟨HEn.out.hn, HEn.out.ho, HEn.out.n4, HEn.out.own.later sB, HEn.out.nk⟩
              have HS7 := hidP (src_rowG Try.tyEn.1 1 1 (by show 0 < 3; omega) rfl sO.row (fun h => by cases h))
              have c77 := HL7.out.bx.k8.2.2.2.2.2.2.2
              simp only at c77
              clear sO sB
              refine hK.out _ _ trivial (fun hHeld => ?_)
              clear hK K
              refine wpAnyH_ready (rs := [6]) (by kernel_rfl) (by simp) ?_
              refine AllReadyH.cons rfl (fun K hK => ?_) AllReadyH.nil
              refine step_appG Try.tyEn _ rfl (.tmp 39) (.tmp 43) 27 rfl (w.heap.size + 1) la ln lc 1 es [E] (.slice (some ⟨w6.heap.size, 0, none⟩) 1 1) rfl HL7.out.kr.hl rfl HL7.out.kr.ol rfl HS7.out (by have h1 := HL.out.i7; have h2 := HL7.out.kr.hl; simp only at h1 h2; omega) (by have := HL7.out.rs.lt; omega) ?_
              intro a8 c8 w8 ho8 hg8 ht8
              have HG8 := hidP (HL7.out.grown hg8)
              have HK8 := hidP (And.intro ho8 (And.intro hg8 ht8))
              clear ho8 hg8 ht8
              refine hK.out _ _ trivial (fun hHeld => ?_)
              clear hK K
              refine tk 7 45 rfl ?_
              simp only [Act.put, List.setIfInBounds_toArray]
              refine wpAnyH_ready (rs := [8]) (by kernel_rfl) (by simp) ?_
              refine AllReadyH.cons rfl (fun K hK => ?_) AllReadyH.nil
              have d8 := HG8.out.2.2.2.k8.2.2.2.2.2.2.2
              simp only at d8
              have d9 := HG8.out.2.2.2.frz
              have dL := HG8.out.2.2.2.lt
              go_simp
              have HN8 : Hid (KD w (w8.setCell ⟨kb, 7, none⟩ (.slice a8 (ln + 1) c8)) c a len cap kb ⟨T, V, B, E0, ga, gn, gc, ha, hn, hc, sa, sn, sc, a8, ln + 1, c8, ps', bs', es ++ [E]⟩ ss) := by
                have hr := KR.app14 HL7.out HK8.out.2.1 HK8.out.1 HK8.out.2.2 HE7.out
                have l1 := HL7.out.hc
                have l2 := HL7.out.lt
                exact hidP ⟨HG8.out.1.far (by omega) _, HG8.out.2.1.setNew l1 (by omega) _, l1, HG8.out.2.2.1.far (by omega) _, HG8.out.2.2.2.set 7 _ _ rfl, l2, hr.set 7 _⟩
              refine hK.out _ _ trivial (fun hHeld => ?_)
              clear hK K
              refine wpAnyH_done (by kernel_rfl) ?_ _
              clear hHeld d8 d9
              go_wp2_with fail
              go_roundw
              case rel => exact ⟨i - 1, t, ⟨T, V, B, E0, ga, gn, gc, ha, hn, hc, sa, sn, sc, a8, ln + 1, c8, ps', bs', es ++ [E]⟩, by go_num, rfl, lp_step HL.out hlt HEk.out.1 HEk.out.2 (by omega) (by omega) HN8.out⟩
              case measure => simp [intOf]; omega
            · go_simp
              have sB := alloc_below w6 (.cells #[.int .i64 E.T, .int .i64 E.K, .slice E.a E.n E.c] 65)
              have sO : OwnG KEn 65 (w6.alloc (.cells #[.int .i64 E.T, .int .i64 E.K, .slice E.a E.n E.c] 65)) (w.heap.size + 1) (.slice (some ⟨w6.heap.size, 0, none⟩) 1 1) [E] := own_oneG KEn w6 (w.heap.size + 1) 65 E (by have := HL6.out.rs.lt; omega)
              generalize w6.alloc (.cells #[.int .i64 E.T, .int .i64 E.K, .slice E.a E.n E.c] 65) = w7 at *
              have HL7 := hidP (HL6.out.below sB)
              have HE7 : Hid (EnS w7 (w.heap.size + 1) kb E) := hidP ⟨HEn.out.hn, HEn.out.ho, HEn.out.n4, HEn.out.own.later sB, HEn.out.nk⟩
              have HS7 := hidP (src_rowG Try.tyEn.1 1 1 (by show 0 < 3; omega) rfl sO.row (fun h => by cases h))
              have c77 := HL7.out.bx.k8.2.2.2.2.2.2.2
              simp only at c77
              clear sO sB
              refine hK.out _ _ trivial (fun hHeld => ?_)
              clear hK K
              refine wpAnyH_ready (rs := [1]) (by kernel_rfl) (by simp) ?_
              refine AllReadyH.cons rfl (fun K hK => ?_) AllReadyH.nil
              go_simp
              refine hK.out _ _ trivial (fun hHeld => ?_)
              clear hK K
              refine wpAnyH_ready (rs := [6]) (by kernel_rfl) (by simp) ?_
              refine AllReadyH.cons rfl (fun K hK => ?_) AllReadyH.nil
              refine step_appG Try.tyEn _ rfl (.tmp 39) (.tmp 43) 27 rfl (w.heap.size + 1) la ln lc 1 es [E] (.slice (some ⟨w6.heap.size, 0, none⟩) 1 1) rfl HL7.out.kr.hl rfl HL7.out.kr.ol rfl HS7.out (by have h1 := HL.out.i7; have h2 := HL7.out.kr.hl; simp only at h1 h2; omega) (by have := HL7.out.rs.lt; omega) ?_
              intro a8 c8 w8 ho8 hg8 ht8
              have HG8 := hidP (HL7.out.grown hg8)
              have HK8 := hidP (And.intro ho8 (And.intro hg8 ht8))
              clear ho8 hg8 ht8
              refine hK.out _ _ trivial (fun hHeld => ?_)
              clear hK K
              refine tk 7 45 rfl ?_
              simp only [Act.put, List.setIfInBounds_toArray]
              refine wpAnyH_ready (rs := [8]) (by kernel_rfl) (by simp) ?_
              refine AllReadyH.cons rfl (fun K hK => ?_) AllReadyH.nil
              have d8 := HG8.out.2.2.2.k8.2.2.2.2.2.2.2
              simp only at d8
              have d9 := HG8.out.2.2.2.frz
              have dL := HG8.out.2.2.2.lt
              go_simp
              have HN8 : Hid (KD w (w8.setCell ⟨kb, 7, none⟩ (.slice a8 (ln + 1) c8)) c a len cap kb ⟨T, V, B, E0, ga, gn, gc, ha, hn, hc, sa, sn, sc, a8, ln + 1, c8, ps', bs', es ++ [E]⟩ ss) := by
                have hr := KR.app14 HL7.out HK8.out.2.1 HK8.out.1 HK8.out.2.2 HE7.out
                have l1 := HL7.out.hc
                have l2 := HL7.out.lt
                exact hidP ⟨HG8.out.1.far (by omega) _, HG8.out.2.1.setNew l1 (by omega) _, l1, HG8.out.2.2.1.far (by omega) _, HG8.out.2.2.2.set 7 _ _ rfl, l2, hr.set 7 _⟩
              refine hK.out _ _ trivial (fun hHeld => ?_)
              clear hK K
              refine wpAnyH_done (by kernel_rfl) ?_ _
              clear hHeld d8 d9
              go_wp2_with fail
              go_roundw
              case rel => exact ⟨i - 1, t, ⟨T, V, B, E0, ga, gn, gc, ha, hn, hc, sa, sn, sc, a8, ln + 1, c8, ps', bs', es ++ [E]⟩, by go_num, rfl, lp_step HL.out hlt HEk.out.1 HEk.out.2 (by omega) (by omega) HN8.out⟩
              case measure => simp [intOf]; omega
        · have c7 := HL.out.kd.bx.k8.2.2.2.2.2.2.2
          simp only at c7
          go_wp2_with fail
          refine wp_region_held_drew (S := (fun _ => True)) (by kernel_rfl) trivial (fun hHeld => ?_)
          have hXd := (Below.refl X5.heap.size X5).drew
          have HLd := hidP (HL.out.kd.below hXd)
          have c7d := HLd.out.bx.k8.2.2.2.2.2.2.2
          simp only at c7d
          have hXs : w.heap.size + 1 ≤ X5.drew.heap.size := HL.out.kd.rs.lt
          have hXk : kb < X5.drew.heap.size := HL.out.kd.bx.lt
          clear hXd c7
          generalize X5.drew = X6 at *
          refine tk 0 38 rfl ?_
          simp only [pa]
          refine tk 2 40 rfl ?_
          simp only [pa]
          refine tk 3 41 rfl ?_
          simp only [pa]
          refine wpAnyH_ready (rs := [1, 4]) (by kernel_rfl) (by simp) ?_
          refine AllReadyH.cons rfl (fun K hK => ?_) (AllReadyH.cons rfl (fun K hK => ?_) AllReadyH.nil)
          · go_simp
            refine hK.out _ _ trivial (fun hHeld => ?_)
            clear hK K
            refine wpAnyH_ready (rs := [4]) (by kernel_rfl) (by simp) ?_
            refine AllReadyH.cons rfl (fun K hK => ?_) AllReadyH.nil
            go_simp
            go_wp2_with (first | (go_at_call 60; refine (l13Entry_ok c a len cap (t + 1) (by omega) (by omega) _ HLd.out.cur).mono ?_; rintro e w6 ⟨⟨E, rfl, hE6⟩, hC6, hK6⟩; have HE6 := hidP (And.intro hE6 (And.intro hC6 hK6)); clear hE6 hC6 hK6))
            have HL6 := hidP (HLd.out.keep HE6.out.2.1 HE6.out.2.2)
            have HEn : Hid (EnS w6 (w.heap.size + 1) kb E) := hidP ⟨HE6.out.1.2.2.1, HE6.out.1.2.2.2.1, En.ok_n HE6.out.1.2.1 HE6.out.1.2.2.1, OwnG.mono HE6.out.1.2.2.2.2 hXs, fun q hq => by have h1 := (OwnG.lt HE6.out.1.2.2.2.2 q hq).1; omega⟩
            have HEk := hidP (And.intro HE6.out.1.1 HE6.out.1.2.1)
            have c76 := HL6.out.bx.k8.2.2.2.2.2.2.2
            simp only at c76
            clear HE6 hXs hXk
            refine hK.out _ _ trivial (fun hHeld => ?_)
            clear hK K
            refine wpAnyH_ready (rs := [5]) (by kernel_rfl) (by simp) ?_
            refine AllReadyH.cons rfl (fun K hK => ?_) AllReadyH.nil
            go_simp
            have sB := alloc_below w6 (.cells #[.int .i64 E.T, .int .i64 E.K, .slice E.a E.n E.c] 65)
            have sO : OwnG KEn 65 (w6.alloc (.cells #[.int .i64 E.T, .int .i64 E.K, .slice E.a E.n E.c] 65)) (w.heap.size + 1) (.slice (some ⟨w6.heap.size, 0, none⟩) 1 1) [E] := own_oneG KEn w6 (w.heap.size + 1) 65 E (by have := HL6.out.rs.lt; omega)
            generalize w6.alloc (.cells #[.int .i64 E.T, .int .i64 E.K, .slice E.a E.n E.c] 65) = w7 at *
            have HL7 := hidP (HL6.out.below sB)
            have HE7 : Hid (EnS w7 (w.heap.size + 1) kb E) := hidP ⟨HEn.out.hn, HEn.out.ho, HEn.out.n4, HEn.out.own.later sB, HEn.out.nk⟩
            have HS7 := hidP (src_rowG Try.tyEn.1 1 1 (by show 0 < 3; omega) rfl sO.row (fun h => by cases h))
            have c77 := HL7.out.bx.k8.2.2.2.2.2.2.2
            simp only at c77
            clear sO sB
            refine hK.out _ _ trivial (fun hHeld => ?_)
            clear hK K
            refine wpAnyH_ready (rs := [6]) (by kernel_rfl) (by simp) ?_
            refine AllReadyH.cons rfl (fun K hK => ?_) AllReadyH.nil
            refine step_appG Try.tyEn _ rfl (.tmp 39) (.tmp 43) 27 rfl (w.heap.size + 1) la ln lc 1 es [E] (.slice (some ⟨w6.heap.size, 0, none⟩) 1 1) rfl HL7.out.kr.hl rfl HL7.out.kr.ol rfl HS7.out (by have h1 := HL.out.i7; have h2 := HL7.out.kr.hl; simp only at h1 h2; omega) (by have := HL7.out.rs.lt; omega) ?_
            intro a8 c8 w8 ho8 hg8 ht8
            have HG8 := hidP (HL7.out.grown hg8)
            have HK8 := hidP (And.intro ho8 (And.intro hg8 ht8))
            clear ho8 hg8 ht8
            refine hK.out _ _ trivial (fun hHeld => ?_)
            clear hK K
            refine tk 7 45 rfl ?_
            simp only [Act.put, List.setIfInBounds_toArray]
            refine wpAnyH_ready (rs := [8]) (by kernel_rfl) (by simp) ?_
            refine AllReadyH.cons rfl (fun K hK => ?_) AllReadyH.nil
            have d8 := HG8.out.2.2.2.k8.2.2.2.2.2.2.2
            simp only at d8
            have d9 := HG8.out.2.2.2.frz
            have dL := HG8.out.2.2.2.lt
            go_simp
            have HN8 : Hid (KD w (w8.setCell ⟨kb, 7, none⟩ (.slice a8 (ln + 1) c8)) c a len cap kb ⟨T, V, B, E0, ga, gn, gc, ha, hn, hc, sa, sn, sc, a8, ln + 1, c8, ps', bs', es ++ [E]⟩ ss) := by
              have hr := KR.app14 HL7.out HK8.out.2.1 HK8.out.1 HK8.out.2.2 HE7.out
              have l1 := HL7.out.hc
              have l2 := HL7.out.lt
              exact hidP ⟨HG8.out.1.far (by omega) _, HG8.out.2.1.setNew l1 (by omega) _, l1, HG8.out.2.2.1.far (by omega) _, HG8.out.2.2.2.set 7 _ _ rfl, l2, hr.set 7 _⟩
            refine hK.out _ _ trivial (fun hHeld => ?_)
            clear hK K
            refine wpAnyH_done (by kernel_rfl) ?_ _
            clear hHeld d8 d9
            go_wp2_with fail
            go_roundw
            case rel => exact ⟨i - 1, t + 1, ⟨T, V, B, E0, ga, gn, gc, ha, hn, hc, sa, sn, sc, a8, ln + 1, c8, ps', bs', es ++ [E]⟩, by go_num, rfl, lp_step HL.out hlt HEk.out.1 HEk.out.2 (by omega) (by omega) HN8.out⟩
            case measure => simp [intOf]; omega
          · go_simp
            go_wp2_with (first | (go_at_call 60; refine (l13Entry_ok c a len cap (t + 1) (by omega) (by omega) _ HLd.out.cur).mono ?_; rintro e w6 ⟨⟨E, rfl, hE6⟩, hC6, hK6⟩; have HE6 := hidP (And.intro hE6 (And.intro hC6 hK6)); clear hE6 hC6 hK6))
            have HL6 := hidP (HLd.out.keep HE6.out.2.1 HE6.out.2.2)
            have HEn : Hid (EnS w6 (w.heap.size + 1) kb E) := hidP ⟨HE6.out.1.2.2.1, HE6.out.1.2.2.2.1, En.ok_n HE6.out.1.2.1 HE6.out.1.2.2.1, OwnG.mono HE6.out.1.2.2.2.2 hXs, fun q hq => by have h1 := (OwnG.lt HE6.out.1.2.2.2.2 q hq).1; omega⟩
            have HEk := hidP (And.intro HE6.out.1.1 HE6.out.1.2.1)
            have c76 := HL6.out.bx.k8.2.2.2.2.2.2.2
            simp only at c76
            clear HE6 hXs hXk
            refine hK.out _ _ trivial (fun hHeld => ?_)
            clear hK K
            refine wpAnyH_ready (rs := [1, 5]) (by kernel_rfl) (by simp) ?_
            refine AllReadyH.cons rfl (fun K hK => ?_) (AllReadyH.cons rfl (fun K hK => ?_) AllReadyH.nil)
            · go_simp
              refine hK.out _ _ trivial (fun hHeld => ?_)
              clear hK K
              refine wpAnyH_ready (rs := [5]) (by kernel_rfl) (by simp) ?_
              refine AllReadyH.cons rfl (fun K hK => ?_) AllReadyH.nil
              go_simp
              have sB := alloc_below w6 (.cells #[.int .i64 E.T, .int .i64 E.K, .slice E.a E.n E.c] 65)
              have sO : OwnG KEn 65 (w6.alloc (.cells #[.int .i64 E.T, .int .i64 E.K, .slice E.a E.n E.c] 65)) (w.heap.size + 1) (.slice (some ⟨w6.heap.size, 0, none⟩) 1 1) [E] := own_oneG KEn w6 (w.heap.size + 1) 65 E (by have := HL6.out.rs.lt; omega)
              generalize w6.alloc (.cells #[.int .i64 E.T, .int .i64 E.K, .slice E.a E.n E.c] 65) = w7 at *
              have HL7 := hidP (HL6.out.below sB)
              have HE7 : Hid (EnS w7 (w.heap.size + 1) kb E) := hidP ⟨HEn.out.hn, HEn.out.ho, HEn.out.n4, HEn.out.own.later sB, HEn.out.nk⟩
              have HS7 := hidP (src_rowG Try.tyEn.1 1 1 (by show 0 < 3; omega) rfl sO.row (fun h => by cases h))
              have c77 := HL7.out.bx.k8.2.2.2.2.2.2.2
              simp only at c77
              clear sO sB
              refine hK.out _ _ trivial (fun hHeld => ?_)
              clear hK K
              refine wpAnyH_ready (rs := [6]) (by kernel_rfl) (by simp) ?_
              refine AllReadyH.cons rfl (fun K hK => ?_) AllReadyH.nil
              refine step_appG Try.tyEn _ rfl (.tmp 39) (.tmp 43) 27 rfl (w.heap.size + 1) la ln lc 1 es [E] (.slice (some ⟨w6.heap.size, 0, none⟩) 1 1) rfl HL7.out.kr.hl rfl HL7.out.kr.ol rfl HS7.out (by have h1 := HL.out.i7; have h2 := HL7.out.kr.hl; simp only at h1 h2; omega) (by have := HL7.out.rs.lt; omega) ?_
              intro a8 c8 w8 ho8 hg8 ht8
              have HG8 := hidP (HL7.out.grown hg8)
              have HK8 := hidP (And.intro ho8 (And.intro hg8 ht8))
              clear ho8 hg8 ht8
              refine hK.out _ _ trivial (fun hHeld => ?_)
              clear hK K
              refine tk 7 45 rfl ?_
              simp only [Act.put, List.setIfInBounds_toArray]
              refine wpAnyH_ready (rs := [8]) (by kernel_rfl) (by simp) ?_
              refine AllReadyH.cons rfl (fun K hK => ?_) AllReadyH.nil
              have d8 := HG8.out.2.2.2.k8.2.2.2.2.2.2.2
              simp only at d8
              have d9 := HG8.out.2.2.2.frz
              have dL := HG8.out.2.2.2.lt
              go_simp
              have HN8 : Hid (KD w (w8.setCell ⟨kb, 7, none⟩ (.slice a8 (ln + 1) c8)) c a len cap kb ⟨T, V, B, E0, ga, gn, gc, ha, hn, hc, sa, sn, sc, a8, ln + 1, c8, ps', bs', es ++ [E]⟩ ss) := by
                have hr := KR.app14 HL7.out HK8.out.2.1 HK8.out.1 HK8.out.2.2 HE7.out
                have l1 := HL7.out.hc
                have l2 := HL7.out.lt
                exact hidP ⟨HG8.out.1.far (by omega) _, HG8.out.2.1.setNew l1 (by omega) _, l1, HG8.out.2.2.1.far (by omega) _, HG8.out.2.2.2.set 7 _ _ rfl, l2, hr.set 7 _⟩
              refine hK.out _ _ trivial (fun hHeld => ?_)
              clear hK K
              refine wpAnyH_done (by kernel_rfl) ?_ _
              clear hHeld d8 d9
              go_wp2_with fail
              go_roundw
              case rel => exact ⟨i - 1, t + 1, ⟨T, V, B, E0, ga, gn, gc, ha, hn, hc, sa, sn, sc, a8, ln + 1, c8, ps', bs', es ++ [E]⟩, by go_num, rfl, lp_step HL.out hlt HEk.out.1 HEk.out.2 (by omega) (by omega) HN8.out⟩
              case measure => simp [intOf]; omega
            · go_simp
              have sB := alloc_below w6 (.cells #[.int .i64 E.T, .int .i64 E.K, .slice E.a E.n E.c] 65)
              have sO : OwnG KEn 65 (w6.alloc (.cells #[.int .i64 E.T, .int .i64 E.K, .slice E.a E.n E.c] 65)) (w.heap.size + 1) (.slice (some ⟨w6.heap.size, 0, none⟩) 1 1) [E] := own_oneG KEn w6 (w.heap.size + 1) 65 E (by have := HL6.out.rs.lt; omega)
              generalize w6.alloc (.cells #[.int .i64 E.T, .int .i64 E.K, .slice E.a E.n E.c] 65) = w7 at *
              have HL7 := hidP (HL6.out.below sB)
              have HE7 : Hid (EnS w7 (w.heap.size + 1) kb E) := hidP ⟨HEn.out.hn, HEn.out.ho, HEn.out.n4, HEn.out.own.later sB, HEn.out.nk⟩
              have HS7 := hidP (src_rowG Try.tyEn.1 1 1 (by show 0 < 3; omega) rfl sO.row (fun h => by cases h))
              have c77 := HL7.out.bx.k8.2.2.2.2.2.2.2
              simp only at c77
              clear sO sB
              refine hK.out _ _ trivial (fun hHeld => ?_)
              clear hK K
              refine wpAnyH_ready (rs := [1]) (by kernel_rfl) (by simp) ?_
              refine AllReadyH.cons rfl (fun K hK => ?_) AllReadyH.nil
              go_simp
              refine hK.out _ _ trivial (fun hHeld => ?_)
              clear hK K
              refine wpAnyH_ready (rs := [6]) (by kernel_rfl) (by simp) ?_
              refine AllReadyH.cons rfl (fun K hK => ?_) AllReadyH.nil
              refine step_appG Try.tyEn _ rfl (.tmp 39) (.tmp 43) 27 rfl (w.heap.size + 1) la ln lc 1 es [E] (.slice (some ⟨w6.heap.size, 0, none⟩) 1 1) rfl HL7.out.kr.hl rfl HL7.out.kr.ol rfl HS7.out (by have h1 := HL.out.i7; have h2 := HL7.out.kr.hl; simp only at h1 h2; omega) (by have := HL7.out.rs.lt; omega) ?_
              intro a8 c8 w8 ho8 hg8 ht8
              have HG8 := hidP (HL7.out.grown hg8)
              have HK8 := hidP (And.intro ho8 (And.intro hg8 ht8))
              clear ho8 hg8 ht8
              refine hK.out _ _ trivial (fun hHeld => ?_)
              clear hK K
              refine tk 7 45 rfl ?_
              simp only [Act.put, List.setIfInBounds_toArray]
              refine wpAnyH_ready (rs := [8]) (by kernel_rfl) (by simp) ?_
              refine AllReadyH.cons rfl (fun K hK => ?_) AllReadyH.nil
              have d8 := HG8.out.2.2.2.k8.2.2.2.2.2.2.2
              simp only at d8
              have d9 := HG8.out.2.2.2.frz
              have dL := HG8.out.2.2.2.lt
              go_simp
              have HN8 : Hid (KD w (w8.setCell ⟨kb, 7, none⟩ (.slice a8 (ln + 1) c8)) c a len cap kb ⟨T, V, B, E0, ga, gn, gc, ha, hn, hc, sa, sn, sc, a8, ln + 1, c8, ps', bs', es ++ [E]⟩ ss) := by
                have hr := KR.app14 HL7.out HK8.out.2.1 HK8.out.1 HK8.out.2.2 HE7.out
                have l1 := HL7.out.hc
                have l2 := HL7.out.lt
                exact hidP ⟨HG8.out.1.far (by omega) _, HG8.out.2.1.setNew l1 (by omega) _, l1, HG8.out.2.2.1.far (by omega) _, HG8.out.2.2.2.set 7 _ _ rfl, l2, hr.set 7 _⟩
              refine hK.out _ _ trivial (fun hHeld => ?_)
              clear hK K
              refine wpAnyH_done (by kernel_rfl) ?_ _
              clear hHeld d8 d9
              go_wp2_with fail
              go_roundw
              case rel => exact ⟨i - 1, t + 1, ⟨T, V, B, E0, ga, gn, gc, ha, hn, hc, sa, sn, sc, a8, ln + 1, c8, ps', bs', es ++ [E]⟩, by go_num, rfl, lp_step HL.out hlt HEk.out.1 HEk.out.2 (by omega) (by omega) HN8.out⟩
              case measure => simp [intOf]; omega
      · have dg1 : decide ((i : Int) > 0) = false := decide_eq_false (by omega)
        have dg2 : decide ((0 : Int) < (i : Int)) = false := dg1
        go_wp2_with fail
        refine (l1Below_any c a len cap 2 _ HL0.out.kd.cur).mono ?_
        rintro e X6 ⟨⟨x, x0, x9, rfl⟩, hC6, hK6⟩
        have x8 := x9 (by omega)
        have H6 := hidP (HL0.out.kd.keep hC6 hK6)
        clear hC6 hK6 x9
        have c6 := H6.out.bx.k8
        have f6 := H6.out.bx.frz
        obtain ⟨c60, c61, c62, c63, c64, c65, c66, c67⟩ := c6
        go_wp2_with fail
        have H7 := hidP (H6.out.put (k' := ⟨t + x, V, B, E0, ga, gn, gc, ha, hn, hc, sa, sn, sc, la, ln, lc, ps', bs', es⟩) 0 _ (.int .i64 (t + x)) rfl rfl (H6.out.kr.ints (t + x) V B E0))
        clear c60 c61 c62 c63 c64 c65 c66 c67 f6
        generalize X6.setCell ⟨kb, 0, none⟩ (.int .i64 (t + x)) = X7 at *
        refine (l1Below_any c a len cap 4 _ H7.out.cur).mono ?_
        rintro e X8 ⟨⟨y, y0, y9, rfl⟩, hC8, hK8⟩
        have y8 := y9 (by omega)
        have H8 := hidP (H7.out.keep hC8 hK8)
        clear hC8 hK8 y9 H7 H6
        obtain ⟨c80, c81, c82, c83, c84, c85, c86, c87⟩ := H8.out.bx.k8
        have f8 := H8.out.bx.frz
        have r80 := H8.out.rs.cel 0 _ rfl
        have r81 := H8.out.rs.cel 1 _ rfl
        have r82 := H8.out.rs.cel 2 _ rfl
        have r83 := H8.out.rs.cel 3 _ rfl
        have r84 := H8.out.rs.cel 4 _ rfl
        have r85 := H8.out.rs.cel 5 _ rfl
        have r86 := H8.out.rs.cel 6 _ rfl
        have r87 := H8.out.rs.cel 7 _ rfl
        have s8 := H8.out.rs.frz
        have n8 : w.heap.size ≠ kb := by have := H8.out.lt; omega
        go_wp2_with fail
        have H9 := H8.out.put (k' := ⟨t + x, y, B, E0, ga, gn, gc, ha, hn, hc, sa, sn, sc, la, ln, lc, ps', bs', es⟩) 1 _ (.int .i64 y) rfl rfl (H8.out.kr.ints (t + x) y B E0)
        have hi0 : i = 0 := by omega
        refine bodyPost_ret (v := Kv.v ⟨t + x, y, B, E0, ga, gn, gc, ha, hn, hc, sa, sn, sc, la, ln, lc, ps', bs', es⟩) (by simp [results, Try.results22, go_sem, r80, r81, r82, r83, r84, r85, r86, r87]) rfl (draw_fin HL0.out H9 hi0 HM.out HC0.out.1 (by assumption) (by assumption) (by assumption) (by assumption))

end Go.Proofs.Ytlhddiikbfobjaa
