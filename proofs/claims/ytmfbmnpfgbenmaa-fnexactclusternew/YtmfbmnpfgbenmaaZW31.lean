/-
  The specification's l13Copy: the same Keep in rows of its own.
-/
import Derived.Test.YtmfbmnpfgbenmaaZW30
namespace Go.Proofs.Ytmfbmnpfgbenmaa
open Go.ChangeShapes Go.WideShapes Go.ChangeAt Go.RowKit Go.Joins Go.Deep

/-- A Keep's rows are one's own. -/
structure KW (X : World) (B : Nat) (k : Kv) (ss : List Int) : Prop where
  hg : k.gn = k.ps.length
  hh : k.hn = k.bs.length
  hs : k.sn = ss.length
  hl : k.ln = k.es.length
  og : OwnG KI 3 X B (.slice k.ga k.gn k.gc) k.ps
  oh : OwnG KI 3 X B (.slice k.ha k.hn k.hc) k.bs
  os : OwnG KBy 5 X B (.slice k.sa k.sn k.sc) ss
  oo : Oct ss
  ol : OwnG KEn 113 X B (.slice k.la k.ln k.lc) k.es
  oe : ∀ e ∈ k.es, EnW X B e
theorem KW.kr {X : World} {B kb : Nat} {k : Kv} {ss : List Int} (h : KW X B k ss) (hk : X.heap.size ≤ kb) : KR X B kb k ss :=
  ⟨h.hg, h.hh, h.hs, h.hl, h.og, h.oh, h.os, h.oo, h.ol, fun e he => have g := h.oe e he; ⟨g.hn, g.ho, g.n4, g.own, fun q hq => by have := (g.own.lt q hq).2; omega⟩, fun q hq => by have := (h.og.lt q hq).2; omega, fun q hq => by have := (h.oh.lt q hq).2; omega, fun q hq => by have := (h.os.lt q hq).2; omega, fun q hq => by have := (h.ol.lt q hq).2; omega⟩
theorem KR.kw {X : World} {B kb : Nat} {k : Kv} {ss : List Int} (h : KR X B kb k ss) : KW X B k ss :=
  ⟨h.hg, h.hh, h.hs, h.hl, h.og, h.oh, h.os, h.oo, h.ol, fun e he => have g := h.oe e he; ⟨g.hn, g.ho, g.n4, g.own⟩⟩
/-- It can be copied. -/
structure KC (w : World) (k : Kv) (ss : List Int) : Prop where
  rd : KvR w k
  hs : k.sn = ss.length
  oo : Oct ss
  rs : RowG KBy w k.sa ss
  oe : ∀ e ∈ k.es, EnC w e
  ng : k.ga = none → k.gc = 0
  nh : k.ha = none → k.hc = 0
  ns : k.sa = none → k.sc = 0
theorem KW.kc {X : World} {B : Nat} {k : Kv} {ss : List Int} (h : KW X B k ss) : KC X k ss :=
  ⟨⟨h.hg, h.hh, h.hl, h.og.row, h.oh.row, h.ol.row, fun e he => ⟨(h.oe e he).hn, (h.oe e he).ho, (h.oe e he).own.row⟩⟩, h.hs, h.oo, h.os.row, fun e he => ⟨⟨(h.oe e he).hn, (h.oe e he).ho, (h.oe e he).own.row⟩, (h.oe e he).n4, (h.oe e he).own.caps.2.2.2⟩, h.og.caps.2.2.2, h.oh.caps.2.2.2, h.os.caps.2.2.2⟩
theorem EnC.later {w w' : World} {e : En} (h : EnC w e) (hb : Below w.heap.size w w') : EnC w' e := ⟨h.dat.later hb, h.n4, h.nc⟩
theorem KC.later {w w' : World} {k : Kv} {ss : List Int} (h : KC w k ss) (hb : Below w.heap.size w w') : KC w' k ss := ⟨h.rd.later hb, h.hs, h.oo, h.rs.later hb, fun e he => (h.oe e he).later hb, h.ng, h.nh, h.ns⟩
/-- It is small. -/
structure KS (k : Kv) : Prop where
  g : k.gn ≤ 100
  h : k.hn ≤ 100
  s : k.sn ≤ 20000
  l : k.ln ≤ 200
theorem OwnG.low {α : Type} {K : Kd α} {t : TypeId} {X : World} {B b i : Nat} {v : Value} {ps : List α} (h : OwnG K t X B v ps) (hb : b < B) (u : Value) : OwnG K t (X.setCell ⟨b, i, none⟩ u) B v ps := h.kpt (kpt_cell X b i u) (fun q hq => by have := (h.lt q hq).1; omega)
theorem EnW.low {X : World} {B b i : Nat} {e : En} (h : EnW X B e) (hb : b < B) (u : Value) : EnW (X.setCell ⟨b, i, none⟩ u) B e := ⟨h.hn, h.ho, h.n4, h.own.low hb u⟩
/-- How a Keep comes out of a copy. -/
def CpK (w w' : World) (e : Ending) (k : Kv) (ss : List Int) : Prop := ∃ k' : Kv, e = .returned k'.v ∧ k'.T = k.T ∧ k'.V = k.V ∧ k'.B = k.B ∧ k'.E = k.E ∧ k'.gn = k.gn ∧ k'.hn = k.hn ∧ k'.sn = k.sn ∧ k'.ln = k.ln ∧ k'.es.map En.key = k.es.map En.key ∧ k'.ps = k.ps ∧ k'.bs = k.bs ∧ KW w' w.heap.size k' ss

set_option maxRecDepth 10000 in
set_option maxHeartbeats 8000000 in
theorem l13Copy_any (k : Kv) (ss : List Int) (w : World) (hr : KC w k ss) (hs : KS k) :
    Calls Try.prog 60 #[k.v] w fun e w' => CpK w w' e k ss ∧ Below w.heap.size w w' := by
  have HG := hidP (fun W (hb : Below w.heap.size w W) => l12Copy_any k.ga k.gn k.gc k.ha k.hn k.hc k.ps k.bs W hr.rd.hg hr.rd.hh (hr.rd.rg.later hb) (hr.rd.rh.later hb) hr.ng hr.nh (by have := hs.g; omega) (by have := hs.h; omega))
  have HE := hidP (fun W (hb : Below w.heap.size w W) => l13Entries_any k.la k.ln k.lc k.es W hr.rd.hl (hr.rd.rl.later hb) (fun e he => (hr.oe e he).later hb) (by have := hs.l; omega))
  have HC := hidP hr
  have HS := hidP hs
  clear hr hs
  obtain ⟨T, V, B, E, ga, gn, gc, ha, hn, hc, sa, sn, sc, la, ln, lc, ps, bs, es⟩ := k
  simp only at HG HE
  have A1 : Hid (Bx (((w.alloc (.cells #[.int .i64 T, .int .i64 V, .int .i64 B, .int .i64 E, .slice ga gn gc, .slice ha hn hc, .slice sa sn sc, .slice la ln lc] 54)).alloc (.cells #[.int .i64 0, .int .i64 0, .int .i64 0, .int .i64 0, .slice none 0 0, .slice none 0 0, .slice none 0 0, .slice none 0 0] 54)).alloc (.cells #[.int .i64 T, .int .i64 V, .int .i64 B, .int .i64 E, .slice ga gn gc, .slice ha hn hc, .slice sa sn sc, .slice la ln lc] 54)) w.heap.size [.int .i64 T, .int .i64 V, .int .i64 B, .int .i64 E, .slice ga gn gc, .slice ha hn hc, .slice sa sn sc, .slice la ln lc] ∧ Bx (((w.alloc (.cells #[.int .i64 T, .int .i64 V, .int .i64 B, .int .i64 E, .slice ga gn gc, .slice ha hn hc, .slice sa sn sc, .slice la ln lc] 54)).alloc (.cells #[.int .i64 0, .int .i64 0, .int .i64 0, .int .i64 0, .slice none 0 0, .slice none 0 0, .slice none 0 0, .slice none 0 0] 54)).alloc (.cells #[.int .i64 T, .int .i64 V, .int .i64 B, .int .i64 E, .slice ga gn gc, .slice ha hn hc, .slice sa sn sc, .slice la ln lc] 54)) (w.heap.size + 1) [.int .i64 0, .int .i64 0, .int .i64 0, .int .i64 0, .slice none 0 0, .slice none 0 0, .slice none 0 0, .slice none 0 0] ∧ Bx (((w.alloc (.cells #[.int .i64 T, .int .i64 V, .int .i64 B, .int .i64 E, .slice ga gn gc, .slice ha hn hc, .slice sa sn sc, .slice la ln lc] 54)).alloc (.cells #[.int .i64 0, .int .i64 0, .int .i64 0, .int .i64 0, .slice none 0 0, .slice none 0 0, .slice none 0 0, .slice none 0 0] 54)).alloc (.cells #[.int .i64 T, .int .i64 V, .int .i64 B, .int .i64 E, .slice ga gn gc, .slice ha hn hc, .slice sa sn sc, .slice la ln lc] 54)) (w.heap.size + 2) [.int .i64 T, .int .i64 V, .int .i64 B, .int .i64 E, .slice ga gn gc, .slice ha hn hc, .slice sa sn sc, .slice la ln lc] ∧ Below w.heap.size w (((w.alloc (.cells #[.int .i64 T, .int .i64 V, .int .i64 B, .int .i64 E, .slice ga gn gc, .slice ha hn hc, .slice sa sn sc, .slice la ln lc] 54)).alloc (.cells #[.int .i64 0, .int .i64 0, .int .i64 0, .int .i64 0, .slice none 0 0, .slice none 0 0, .slice none 0 0, .slice none 0 0] 54)).alloc (.cells #[.int .i64 T, .int .i64 V, .int .i64 B, .int .i64 E, .slice ga gn gc, .slice ha hn hc, .slice sa sn sc, .slice la ln lc] 54)) ∧ (((w.alloc (.cells #[.int .i64 T, .int .i64 V, .int .i64 B, .int .i64 E, .slice ga gn gc, .slice ha hn hc, .slice sa sn sc, .slice la ln lc] 54)).alloc (.cells #[.int .i64 0, .int .i64 0, .int .i64 0, .int .i64 0, .slice none 0 0, .slice none 0 0, .slice none 0 0, .slice none 0 0] 54)).alloc (.cells #[.int .i64 T, .int .i64 V, .int .i64 B, .int .i64 E, .slice ga gn gc, .slice ha hn hc, .slice sa sn sc, .slice la ln lc] 54)).heap.size = w.heap.size + 3) := by
    have u1 := alloc_below w (.cells #[.int .i64 T, .int .i64 V, .int .i64 B, .int .i64 E, .slice ga gn gc, .slice ha hn hc, .slice sa sn sc, .slice la ln lc] 54)
    have u2 := alloc_below (w.alloc (.cells #[.int .i64 T, .int .i64 V, .int .i64 B, .int .i64 E, .slice ga gn gc, .slice ha hn hc, .slice sa sn sc, .slice la ln lc] 54)) (.cells #[.int .i64 0, .int .i64 0, .int .i64 0, .int .i64 0, .slice none 0 0, .slice none 0 0, .slice none 0 0, .slice none 0 0] 54)
    have u3 := alloc_below ((w.alloc (.cells #[.int .i64 T, .int .i64 V, .int .i64 B, .int .i64 E, .slice ga gn gc, .slice ha hn hc, .slice sa sn sc, .slice la ln lc] 54)).alloc (.cells #[.int .i64 0, .int .i64 0, .int .i64 0, .int .i64 0, .slice none 0 0, .slice none 0 0, .slice none 0 0, .slice none 0 0] 54)) (.cells #[.int .i64 T, .int .i64 V, .int .i64 B, .int .i64 E, .slice ga gn gc, .slice ha hn hc, .slice sa sn sc, .slice la ln lc] 54)
    have v1 := Bx.new w [.int .i64 T, .int .i64 V, .int .i64 B, .int .i64 E, .slice ga gn gc, .slice ha hn hc, .slice sa sn sc, .slice la ln lc] 54
    have v2 := Bx.new (w.alloc (.cells #[.int .i64 T, .int .i64 V, .int .i64 B, .int .i64 E, .slice ga gn gc, .slice ha hn hc, .slice sa sn sc, .slice la ln lc] 54)) [.int .i64 0, .int .i64 0, .int .i64 0, .int .i64 0, .slice none 0 0, .slice none 0 0, .slice none 0 0, .slice none 0 0] 54
    have v3 := Bx.new ((w.alloc (.cells #[.int .i64 T, .int .i64 V, .int .i64 B, .int .i64 E, .slice ga gn gc, .slice ha hn hc, .slice sa sn sc, .slice la ln lc] 54)).alloc (.cells #[.int .i64 0, .int .i64 0, .int .i64 0, .int .i64 0, .slice none 0 0, .slice none 0 0, .slice none 0 0, .slice none 0 0] 54)) [.int .i64 T, .int .i64 V, .int .i64 B, .int .i64 E, .slice ga gn gc, .slice ha hn hc, .slice sa sn sc, .slice la ln lc] 54
    have s1 : (w.alloc (.cells #[.int .i64 T, .int .i64 V, .int .i64 B, .int .i64 E, .slice ga gn gc, .slice ha hn hc, .slice sa sn sc, .slice la ln lc] 54)).heap.size = w.heap.size + 1 := by simp
    have s2 : ((w.alloc (.cells #[.int .i64 T, .int .i64 V, .int .i64 B, .int .i64 E, .slice ga gn gc, .slice ha hn hc, .slice sa sn sc, .slice la ln lc] 54)).alloc (.cells #[.int .i64 0, .int .i64 0, .int .i64 0, .int .i64 0, .slice none 0 0, .slice none 0 0, .slice none 0 0, .slice none 0 0] 54)).heap.size = w.heap.size + 2 := by simp
    rw [s1] at v2
    rw [s2] at v3
    exact hidP ⟨(v1.later u2).later u3, v2.later u3, v3, u1.trans ((u2.trans (u3.mono u2.size)).mono u1.size), by simp⟩
  go_enter Try.func60, Try.ntmps60
  go_wp2_with fail
  generalize ((w.alloc (.cells #[.int .i64 T, .int .i64 V, .int .i64 B, .int .i64 E, .slice ga gn gc, .slice ha hn hc, .slice sa sn sc, .slice la ln lc] 54)).alloc (.cells #[.int .i64 0, .int .i64 0, .int .i64 0, .int .i64 0, .slice none 0 0, .slice none 0 0, .slice none 0 0, .slice none 0 0] 54)).alloc (.cells #[.int .i64 T, .int .i64 V, .int .i64 B, .int .i64 E, .slice ga gn gc, .slice ha hn hc, .slice sa sn sc, .slice la ln lc] 54) = W1 at *
  refine (HG.out _ A1.out.2.2.2.1).mono ?_
  rintro e w2 ⟨g1, d1, g2, d2, rfl, og, oh, nq, hb2⟩
  have A2 := hidP (And.intro (A1.out.1.later hb2) (And.intro (A1.out.2.1.later hb2) (And.intro (A1.out.2.2.1.later hb2) (And.intro (A1.out.2.2.2.1.trans (hb2.mono A1.out.2.2.2.1.size)) (show w.heap.size + 3 ≤ w2.heap.size by have h1 := A1.out.2.2.2.2; have h2 := hb2.size; omega)))))
  have O2 : Hid (OwnG KI 3 w2 (w.heap.size + 3) (.slice g1 gn d1) ps ∧ OwnG KI 3 w2 (w.heap.size + 3) (.slice g2 hn d2) bs) := hidP ⟨og.mono (by have := A1.out.2.2.2.2; omega), oh.mono (by have := A1.out.2.2.2.2; omega)⟩
  clear og oh nq hb2 A1
  have a6 := A2.out.1.cel 6 _ rfl
  have a7 := A2.out.1.cel 7 _ rfl
  have o4 := A2.out.2.2.1.cel 4 _ rfl
  have o5 := A2.out.2.2.1.cel 5 _ rfl
  have oF := A2.out.2.2.1.frz
  have n2 : w.heap.size < w2.heap.size := A2.out.1.lt
  have n3 : w.heap.size + 2 < w2.heap.size := A2.out.2.2.1.lt
  have Z3 := own_zeroG KBy ((w2.setCell ⟨w.heap.size + 2, 4, none⟩ (.slice g1 gn d1)).setCell ⟨w.heap.size + 2, 5, none⟩ (.slice g2 hn d2)) ((w2.setCell ⟨w.heap.size + 2, 4, none⟩ (.slice g1 gn d1)).setCell ⟨w.heap.size + 2, 5, none⟩ (.slice g2 hn d2)).heap.size 5 (Nat.le_refl _)
  have ab3 := alloc_below ((w2.setCell ⟨w.heap.size + 2, 4, none⟩ (.slice g1 gn d1)).setCell ⟨w.heap.size + 2, 5, none⟩ (.slice g2 hn d2)) (.cells #[] 5)
  have sz3 : ((w2.setCell ⟨w.heap.size + 2, 4, none⟩ (.slice g1 gn d1)).setCell ⟨w.heap.size + 2, 5, none⟩ (.slice g2 hn d2)).heap.size = w2.heap.size := by simp
  have bw3 : Below w.heap.size w ((w2.setCell ⟨w.heap.size + 2, 4, none⟩ (.slice g1 gn d1)).setCell ⟨w.heap.size + 2, 5, none⟩ (.slice g2 hn d2)) := (A2.out.2.2.2.1.setCell (by show w.heap.size ≤ w.heap.size + 2; omega) _).setCell (by show w.heap.size ≤ w.heap.size + 2; omega) _
  have A3 := hidP (And.intro (((A2.out.1.far (by omega) _).far (by omega) _).later ab3) (And.intro (((A2.out.2.1.far (by omega) _).far (by omega) _).later ab3) (And.intro ((((A2.out.2.2.1.set 4 _ (.slice g1 gn d1) rfl).set 5 _ (.slice g2 hn d2) rfl)).later ab3) (bw3.trans (ab3.mono bw3.size)))))
  have O3 := hidP (And.intro (((O2.out.1.low (b := w.heap.size + 2) (i := 4) (by omega) (.slice g1 gn d1)).low (b := w.heap.size + 2) (i := 5) (by omega) (.slice g2 hn d2)).later ab3) (((O2.out.2.low (b := w.heap.size + 2) (i := 4) (by omega) (.slice g1 gn d1)).low (b := w.heap.size + 2) (i := 5) (by omega) (.slice g2 hn d2)).later ab3))
  have ab3s := ab3.size
  rw [sz3] at Z3 ab3s
  clear ab3 bw3 sz3 O2
  have HZ3 := hidP (And.intro Z3 ab3s)
  have HSr := hidP (src_rowG Try.tyBy.1 sn sc (by show 0 < 1; omega) HC.out.hs (HC.out.rs.later A3.out.2.2.2) HC.out.ns)
  have s400 : sn ≤ 20000 := HS.out.s
  have nn : ∀ b : Nat, b < w2.heap.size → some b ≠ (Value.slice (some ⟨w2.heap.size, 0, none⟩) 0 0).ownBlock := fun b hb h => by have : b = w2.heap.size := Option.some.inj h; omega
  have HF4 : Hid (∀ Y, (((w2.setCell ⟨w.heap.size + 2, 4, none⟩ (.slice g1 gn d1)).setCell ⟨w.heap.size + 2, 5, none⟩ (.slice g2 hn d2)).alloc (.cells #[] 5)).grownBy Y (Value.slice (some ⟨w2.heap.size, 0, none⟩) 0 0).ownBlock → (Y.cell? ⟨w.heap.size + 1 + 1, 6, none⟩ = some (.slice sa sn sc) ∧ Y.cell? ⟨w.heap.size, 7, none⟩ = some (.slice la ln lc) ∧ (∀ o, Y.frozen? ⟨w.heap.size + 1 + 1, o, none⟩ = false) ∧ w.heap.size < Y.heap.size ∧ w.heap.size + 1 + 1 < Y.heap.size)) := hidP fun Y hY => ⟨(A3.out.2.2.1.grown hY (nn _ n3)).cel 6 _ rfl, (A3.out.1.grown hY (nn _ n2)).cel 7 _ rfl, (A3.out.2.2.1.grown hY (nn _ n3)).frz, (A3.out.1.grown hY (nn _ n2)).lt, (A3.out.2.2.1.grown hY (nn _ n3)).lt⟩
  clear Z3 ab3s
  go_wp2_with (at_builtin; refine wpList_appG Try.tyBy _ rfl (.tmp 9) (.tmp 11) 52 rfl w2.heap.size (some ⟨w2.heap.size, 0, none⟩) 0 0 sn [] ss (.slice sa sn sc) rfl rfl HC.out.hs HZ3.out.1 rfl HSr.out (by omega) HZ3.out.2 ?_; intro a4 c4 w4 ho4 hg4 ht4; obtain ⟨o6', a7', oF', n4, n5'⟩ := HF4.out w4 hg4)
  have Z3 := HZ3.out.1
  have ab3s := HZ3.out.2
  clear a6 a7 o4 o5 oF HSr
  rw [Nat.zero_add, List.nil_append] at ho4
  have ne4 : (3 : TypeId) ≠ 5 := by decide
  have bb4 := (Below.refl w2.heap.size _).grown hg4 ab3s (fun q hq => by have : w2.heap.size = q := Option.some.inj hq; omega)
  have A4 := hidP (And.intro (A3.out.1.grown hg4 (nn _ n2)) (And.intro (A3.out.2.1.grown hg4 (nn _ (by omega))) (And.intro (A3.out.2.2.1.grown hg4 (nn _ n3)) (A3.out.2.2.2.trans (bb4.mono A2.out.2.2.2.1.size)))))
  have O4 := hidP (And.intro (O3.out.1.grown hg4 (fun q hq e => own_sep O3.out.1 Z3 ne4 q hq e)) (And.intro (O3.out.2.grown hg4 (fun q hq e => own_sep O3.out.2 Z3 ne4 q hq e)) (ho4.mono (show w.heap.size + 3 ≤ w2.heap.size from A2.out.2.2.2.2))))
  clear ho4 hg4 ht4 bb4 A3 O3 Z3 nn HZ3 ab3s
  have A5 := hidP (And.intro (A4.out.1.far (b := w.heap.size + 2) (i := 6) (by omega) (.slice a4 sn c4)) (And.intro (A4.out.2.1.far (b := w.heap.size + 2) (i := 6) (by omega) (.slice a4 sn c4)) (And.intro (A4.out.2.2.1.set 6 _ (.slice a4 sn c4) rfl) (A4.out.2.2.2.setCell (p := ⟨w.heap.size + 2, 6, none⟩) (by show w.heap.size ≤ w.heap.size + 2; omega) (.slice a4 sn c4)))))
  have O5 := hidP (And.intro (O4.out.1.low (b := w.heap.size + 2) (i := 6) (by omega) (.slice a4 sn c4)) (And.intro (O4.out.2.1.low (b := w.heap.size + 2) (i := 6) (by omega) (.slice a4 sn c4)) (O4.out.2.2.low (b := w.heap.size + 2) (i := 6) (by omega) (.slice a4 sn c4))))
  clear a7' o6' oF' n5' A4 O4 HF4
  generalize w4.setCell ⟨w.heap.size + 2, 6, none⟩ (.slice a4 sn c4) = W5 at *
  refine (HE.out _ A5.out.2.2.2).mono ?_
  rintro e w6 ⟨a6, c6, fs, rfl, hfl, hfk, ol, oe, hb6⟩
  have hB5 : w.heap.size + 3 ≤ W5.heap.size := A5.out.2.2.1.lt
  have A6 := hidP (And.intro (A5.out.2.1.later hb6) (And.intro (A5.out.2.2.1.later hb6) (A5.out.2.2.2.trans (hb6.mono A5.out.2.2.2.size))))
  have O6 : Hid (OwnG KI 3 w6 (w.heap.size + 3) (.slice g1 gn d1) ps ∧ OwnG KI 3 w6 (w.heap.size + 3) (.slice g2 hn d2) bs ∧ OwnG KBy 5 w6 (w.heap.size + 3) (.slice a4 sn c4) ss ∧ OwnG KEn 113 w6 (w.heap.size + 3) (.slice a6 ln c6) fs ∧ ∀ e ∈ fs, EnW w6 (w.heap.size + 3) e) := hidP ⟨O5.out.1.later hb6, O5.out.2.1.later hb6, O5.out.2.2.later hb6, ol.mono hB5, fun e he => ⟨(oe e he).hn, (oe e he).ho, (oe e he).n4, (oe e he).own.mono hB5⟩⟩
  have HF := hidP (And.intro hfl hfk)
  clear ol oe hb6 hfl hfk A5 O5
  obtain ⟨z0, z1, z2, z3, z4, z5, z6, z7⟩ := (show _ ∧ _ ∧ _ ∧ _ ∧ _ ∧ _ ∧ _ ∧ _ from ⟨A6.out.1.cel 0 _ rfl, A6.out.1.cel 1 _ rfl, A6.out.1.cel 2 _ rfl, A6.out.1.cel 3 _ rfl, A6.out.1.cel 4 _ rfl, A6.out.1.cel 5 _ rfl, A6.out.1.cel 6 _ rfl, A6.out.1.cel 7 _ rfl⟩)
  obtain ⟨y0, y1, y2, y3, y4, y5, y6, y7⟩ := (show _ ∧ _ ∧ _ ∧ _ ∧ _ ∧ _ ∧ _ ∧ _ from ⟨A6.out.2.1.cel 0 _ rfl, A6.out.2.1.cel 1 _ rfl, A6.out.2.1.cel 2 _ rfl, A6.out.2.1.cel 3 _ rfl, A6.out.2.1.cel 4 _ rfl, A6.out.2.1.cel 5 _ rfl, A6.out.2.1.cel 6 _ rfl, A6.out.2.1.cel 7 _ rfl⟩)
  have zF := A6.out.1.frz
  have yF := A6.out.2.1.frz
  have n6 : w.heap.size + 1 < w6.heap.size := A6.out.1.lt
  have n7 : w.heap.size + 2 < w6.heap.size := A6.out.2.1.lt
  have y0' : w6.cell? ⟨w.heap.size + 1 + 1, 0, none⟩ = some (.int .i64 T) := y0
  have y1' : w6.cell? ⟨w.heap.size + 1 + 1, 1, none⟩ = some (.int .i64 V) := y1
  have y2' : w6.cell? ⟨w.heap.size + 1 + 1, 2, none⟩ = some (.int .i64 B) := y2
  have y3' : w6.cell? ⟨w.heap.size + 1 + 1, 3, none⟩ = some (.int .i64 E) := y3
  have y4' : w6.cell? ⟨w.heap.size + 1 + 1, 4, none⟩ = some (.slice g1 gn d1) := y4
  have y5' : w6.cell? ⟨w.heap.size + 1 + 1, 5, none⟩ = some (.slice g2 hn d2) := y5
  have y6' : w6.cell? ⟨w.heap.size + 1 + 1, 6, none⟩ = some (.slice a4 sn c4) := y6
  have y7' : w6.cell? ⟨w.heap.size + 1 + 1, 7, none⟩ = some (.slice la ln lc) := y7
  have z0' : w6.cell? ⟨w.heap.size + 1, 0, none⟩ = some (.int .i64 0) := z0
  have z1' : w6.cell? ⟨w.heap.size + 1, 1, none⟩ = some (.int .i64 0) := z1
  have z2' : w6.cell? ⟨w.heap.size + 1, 2, none⟩ = some (.int .i64 0) := z2
  have z3' : w6.cell? ⟨w.heap.size + 1, 3, none⟩ = some (.int .i64 0) := z3
  have z4' : w6.cell? ⟨w.heap.size + 1, 4, none⟩ = some (.slice none 0 0) := z4
  have z5' : w6.cell? ⟨w.heap.size + 1, 5, none⟩ = some (.slice none 0 0) := z5
  have z6' : w6.cell? ⟨w.heap.size + 1, 6, none⟩ = some (.slice none 0 0) := z6
  have z7' : w6.cell? ⟨w.heap.size + 1, 7, none⟩ = some (.slice none 0 0) := z7
  have yF' : ∀ o, w6.frozen? ⟨w.heap.size + 1 + 1, o, none⟩ = false := yF
  have n7' : w.heap.size + 1 + 1 < w6.heap.size := n7
  clear z0 z1 z2 z3 z4 z5 z6 z7 y0 y1 y2 y3 y4 y5 y6 y7
  go_wp2_with fail
  refine bodyPost_ret (v := Kv.v ⟨T, V, B, E, g1, gn, d1, g2, hn, d2, a4, sn, c4, a6, ln, c6, ps, bs, fs⟩) (by simp [results, Try.results60, go_sem, z0', z1', z2', z3', z4', z5', z6', z7']) rfl ⟨⟨⟨T, V, B, E, g1, gn, d1, g2, hn, d2, a4, sn, c4, a6, ln, c6, ps, bs, fs⟩, rfl, rfl, rfl, rfl, rfl, rfl, rfl, rfl, rfl, HF.out.2, rfl, rfl, ?_⟩, ?_⟩
  · have l1 : w.heap.size + 1 < w.heap.size + 3 := by omega
    have l2 : w.heap.size + 2 < w.heap.size + 3 := by omega
    have fin : ∀ {α : Type} {K : Kd α} {t : TypeId} {v : Value} {qs : List α}, OwnG K t w6 (w.heap.size + 3) v qs → OwnG K t (((((((((w6.setCell ⟨w.heap.size + 2, 7, none⟩ (.slice a6 ln c6)).setCell ⟨w.heap.size + 1, 0, none⟩ (.int .i64 T)).setCell ⟨w.heap.size + 1, 1, none⟩ (.int .i64 V)).setCell ⟨w.heap.size + 1, 2, none⟩ (.int .i64 B)).setCell ⟨w.heap.size + 1, 3, none⟩ (.int .i64 E)).setCell ⟨w.heap.size + 1, 4, none⟩ (.slice g1 gn d1)).setCell ⟨w.heap.size + 1, 5, none⟩ (.slice g2 hn d2)).setCell ⟨w.heap.size + 1, 6, none⟩ (.slice a4 sn c4)).setCell ⟨w.heap.size + 1, 7, none⟩ (.slice a6 ln c6)) w.heap.size v qs := fun h => (((((((((h.low l2 _).low l1 _).low l1 _).low l1 _).low l1 _).low l1 _).low l1 _).low l1 _).low l1 _).mono (by omega)
    exact ⟨HC.out.rd.hg, HC.out.rd.hh, HC.out.hs, HF.out.1, fin O6.out.1, fin O6.out.2.1, fin O6.out.2.2.1, HC.out.oo, fin O6.out.2.2.2.1, fun e he => have g := O6.out.2.2.2.2 e he; ⟨g.hn, g.ho, g.n4, fin g.own⟩⟩
  · repeat (with_reducible refine Below.setCell ?_ ?_ _; rotate_left; (focus (first | omega | (simp; omega) | (simp; done))))
    exact A6.out.2.2

end Go.Proofs.Ytmfbmnpfgbenmaa
