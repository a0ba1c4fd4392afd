/-
  The laws' copies of a message's lists, looks at them and their sizes.
-/
import Derived.Test.YtmfbmnpfgbenmaaZW11
import Derived.RangeFuncNested
import Derived.RangeFuncBound
import Derived.RangeFuncCalls
import Derived.RangeFuncLeaves
import Derived.Shelf.Abstract
import Derived.Shelf.RegionOpen
import Derived.WalkKit
import Derived.OwnWalkIn
import Derived.TacticsInMore
import Derived.LoopNIn
import Derived.LoopIn
import Derived.Test.YtmfbmnpfgbenmaaZW27
import Derived.Test.YtmfbmnpfgbenmaaZW6
import Derived.Test.YtmfbmnpfgbenmaaZW1
namespace Go.Proofs.Ytmfbmnpfgbenmaa
open Go.ChangeShapes Go.WideShapes Go.ChangeAt Go.RowKit Go.Joins Go.Deep

/-- All their bytes. -/
def sumE : List En → Int
  | [] => 0
  | e :: t => e.n + sumE t
theorem sumE_nn : ∀ es : List En, 0 ≤ sumE es
  | [] => Int.le_refl _
  | e :: t => by have := sumE_nn t; unfold sumE; omega

end Go.Proofs.Ytmfbmnpfgbenmaa

/-
  A range over a function, told by footprints: a set M of blocks is the rounds' own; the iterator turns no block of M, a round turns no block that lay outside M. Nothing is asked of the depth.
-/
namespace Go.Proofs.Ytmfbmnpfgbenmaa
open Go.RowKit

/-- The blocks of M lie as they lay. -/
structure Kpt (M : Nat → Prop) (A B : World) : Prop where
  os : B.os = A.os
  tape : B.tape = A.tape
  output : B.output = A.output
  size : A.heap.size ≤ B.heap.size
  block : ∀ k, k < A.heap.size → M k → B.heap[k]? = A.heap[k]?

theorem Kpt.refl (M : Nat → Prop) (A : World) : Kpt M A A := ⟨rfl, rfl, rfl, Nat.le_refl _, fun _ _ _ => rfl⟩
theorem Kpt.mono {M N : Nat → Prop} {A B : World} (h : Kpt M A B) (hn : ∀ k, N k → M k) : Kpt N A B := ⟨h.os, h.tape, h.output, h.size, fun k hk hm => h.block k hk (hn k hm)⟩
theorem Kpt.trans {M : Nat → Prop} {A B C : World} (h : Kpt M A B) (g : Kpt M B C) : Kpt M A C :=
  ⟨g.os.trans h.os, g.tape.trans h.tape, g.output.trans h.output, Nat.le_trans h.size g.size, fun k hk hm => (g.block k (Nat.lt_of_lt_of_le hk h.size) hm).trans (h.block k hk hm)⟩
theorem Kpt.ofBelow {A B : World} (M : Nat → Prop) (h : Below A.heap.size A B) : Kpt M A B := ⟨h.os, h.tape, h.output, h.size, fun k hk _ => h.block k hk⟩
theorem Kpt.below {n : Nat} {A B : World} (h : Kpt (fun k => k < n) A B) (hn : n ≤ A.heap.size) : Below n A B := ⟨h.os, h.tape, h.output, h.size, fun k hk => h.block k (by omega) hk⟩
theorem Kpt.cell {M : Nat → Prop} {A B : World} (h : Kpt M A B) {p : Addr} (hp : p.block < A.heap.size) (hm : M p.block) : B.cell? p = A.cell? p := World.cell?_of_block (w := A) (h.block p.block hp hm)
/-- Behind a round (or a part of the iterator): what was none of M's lies; the new M' has of the old blocks none but M's. -/
structure Grw (M M' : Nat → Prop) (A B : World) : Prop where
  kept : Kpt (fun k => ¬ M k) A B
  old : ∀ k, M' k → k < A.heap.size → M k
  fit : ∀ k, M' k → k < B.heap.size

theorem Grw.trans {M M' M'' : Nat → Prop} {A B C : World} (h : Grw M M' A B) (g : Grw M' M'' B C) : Grw M M'' A C :=
  ⟨⟨g.kept.os.trans h.kept.os, g.kept.tape.trans h.kept.tape, g.kept.output.trans h.kept.output, Nat.le_trans h.kept.size g.kept.size, fun k hk hm =>
      (g.kept.block k (Nat.lt_of_lt_of_le hk h.kept.size) (fun h' => hm (h.old k h' hk))).trans (h.kept.block k hk hm)⟩,
    fun k hk hl => h.old k (g.old k hk (Nat.lt_of_lt_of_le hl h.kept.size)) hl, g.fit⟩
theorem Grw.ofBelow {M : Nat → Prop} {A B : World} (h : Below A.heap.size A B) (hf : ∀ k, M k → k < A.heap.size) : Grw M M A B :=
  ⟨Kpt.ofBelow _ h, fun _ hm _ => hm, fun k hm => Nat.lt_of_lt_of_le (hf k hm) h.size⟩
theorem Grw.refl {M : Nat → Prop} {A : World} (hf : ∀ k, M k → k < A.heap.size) : Grw M M A A := Grw.ofBelow (Below.refl _ A) hf

def Abd {α : Type} (J : Bool → List α → (Nat → Prop) → World → Prop) : Prop := ∀ b pre M A B, J b pre M A → Kpt M A B → J b pre M B

end Go.Proofs.Ytmfbmnpfgbenmaa

/-
  Boxes of cells, and what lies in blocks from a bound on.
-/
namespace Go.Proofs.Ytmfbmnpfgbenmaa
open Go.ChangeShapes Go.WideShapes Go.ChangeAt Go.RowKit Go.Joins Go.Deep

theorem own_kpt {α : Type} {K : Kd α} {t : TypeId} {w w' : World} {M : Nat → Prop} {B : Nat} {v : Value} {ps : List α} (h : OwnG K t w B v ps) (hk : Kpt M w w') (hm : ∀ k, B ≤ k → M k) : OwnG K t w' B v ps := by
  refine ⟨h.1, ?_⟩
  rcases h.2 with h1 | ⟨g, cap, cur, hv, hg, hr, hr'⟩
  · exact Or.inl h1
  · refine Or.inr ⟨g, cap, cur, hv, hg, (hk.block g ?_ (hm g hg)).trans hr, hr'⟩
    rcases Nat.lt_or_ge g w.heap.size with hlt | hge
    · exact hlt
    · rw [Array.getElem?_eq_none hge] at hr; cases hr
theorem EnO.kpt {w w' : World} {M : Nat → Prop} {B G : Nat} {e : En} (h : EnO w B G e) (hk : Kpt M w w') (hm : ∀ k, B ≤ k → M k) : EnO w' B G e := ⟨h.hn, h.ho, own_kpt h.own hk hm, h.ne⟩

end Go.Proofs.Ytmfbmnpfgbenmaa

/-
  A Keep that came in: the laws' copies of it, looks at it, its size.
-/
namespace Go.Proofs.Ytmfbmnpfgbenmaa
open Go.ChangeShapes Go.WideShapes Go.ChangeAt Go.RowKit Go.Joins Go.Deep

/-- It can be read, all of it. -/
structure KvF (w : World) (k : Kv) (ss : List Int) : Prop where
  r : KvR w k
  hs : k.sn = ss.length
  os : Oct ss
  rs : RowG KBy w k.sa ss
theorem KvF.later {w w' : World} {k : Kv} {ss : List Int} (h : KvF w k ss) (hb : Below w.heap.size w w') : KvF w' k ss := ⟨h.r.later hb, h.hs, h.os, h.rs.later hb⟩
/-- It is not too long. -/
structure KvS (k : Kv) : Prop where
  hg : k.gn ≤ 1048576
  hh : k.hn ≤ 1048576
  hs : k.sn ≤ 1048576
  hl : k.ln ≤ 1048576
  hz : ∀ e ∈ k.es, e.n ≤ 1048576
/-- The same Keep, elsewhere. -/
structure KvE (m k : Kv) : Prop where
  T : k.T = m.T
  V : k.V = m.V
  B : k.B = m.B
  E : k.E = m.E
  gn : k.gn = m.gn
  hn : k.hn = m.hn
  sn : k.sn = m.sn
  ln : k.ln = m.ln
  ps : k.ps = m.ps
  bs : k.bs = m.bs
  es : k.es.map En.key = m.es.map En.key
theorem KvE.s {m k : Kv} (h : KvE m k) (hs : KvS m) : KvS k := by
  refine ⟨by rw [h.gn]; exact hs.hg, by rw [h.hn]; exact hs.hh, by rw [h.sn]; exact hs.hs, by rw [h.ln]; exact hs.hl, fun e he => ?_⟩
  have h1 : e.key ∈ k.es.map En.key := List.mem_map.2 ⟨e, he, rfl⟩
  rw [h.es] at h1
  obtain ⟨f, hf, hk⟩ := List.mem_map.1 h1
  have : e.n = f.n := congrArg (fun x => x.2.2.1) hk.symm
  rw [this]
  exact hs.hz f hf
/-- Its rows are one's own. -/
structure KvO (w : World) (D : Nat) (k : Kv) (ss : List Int) : Prop where
  hg : k.gn = k.ps.length
  hh : k.hn = k.bs.length
  hs : k.sn = ss.length
  hl : k.ln = k.es.length
  ot : Oct ss
  og : OwnG KI 3 w D (.slice k.ga k.gn k.gc) k.ps
  oh : OwnG KI 3 w D (.slice k.ha k.hn k.hc) k.bs
  os : OwnG KBy 5 w D (.slice k.sa k.sn k.sc) ss
  ol : OwnG KEn 113 w D (.slice k.la k.ln k.lc) k.es
  oe : ∀ e ∈ k.es, (e.n = e.zs.length ∧ Oct e.zs ∧ OwnG KBy 5 w D (.slice e.a e.n e.c) e.zs) ∧ EnF e
theorem KvO.later {w w' : World} {D : Nat} {k : Kv} {ss : List Int} (h : KvO w D k ss) (hb : Below w.heap.size w w') : KvO w' D k ss := ⟨h.hg, h.hh, h.hs, h.hl, h.ot, h.og.later hb, h.oh.later hb, h.os.later hb, h.ol.later hb, fun e he => ⟨⟨(h.oe e he).1.1, (h.oe e he).1.2.1, (h.oe e he).1.2.2.later hb⟩, (h.oe e he).2⟩⟩
theorem KvO.mono {w : World} {D C : Nat} {k : Kv} {ss : List Int} (h : KvO w D k ss) (hb : C ≤ D) : KvO w C k ss := ⟨h.hg, h.hh, h.hs, h.hl, h.ot, h.og.mono hb, h.oh.mono hb, h.os.mono hb, h.ol.mono hb, fun e he => ⟨⟨(h.oe e he).1.1, (h.oe e he).1.2.1, (h.oe e he).1.2.2.mono hb⟩, (h.oe e he).2⟩⟩
theorem KvO.f {w : World} {D : Nat} {k : Kv} {ss : List Int} (h : KvO w D k ss) : KvF w k ss := ⟨⟨h.hg, h.hh, h.hl, h.og.row, h.oh.row, h.ol.row, fun e he => ⟨(h.oe e he).1.1, (h.oe e he).1.2.1, (h.oe e he).1.2.2.row⟩⟩, h.hs, h.ot, h.os.row⟩
/-- All that it holds. -/
def totK (k : Kv) : Int := ((k.gn : Int) + (k.hn : Int)) + ((k.sn : Int) + ((k.ln : Int) + sumE k.es))
theorem sumE_mem : ∀ {es : List En} {e : En}, e ∈ es → (e.n : Int) ≤ sumE es
  | x :: t, e, h => by
      have h0 := sumE_nn t
      show (e.n : Int) ≤ x.n + sumE t
      rcases List.mem_cons.1 h with rfl | h
      · omega
      · have := sumE_mem h
        omega
theorem KvS.of {k : Kv} (h : totK k ≤ 1048576) : KvS k := by
  have h0 := sumE_nn k.es
  unfold totK at h
  exact ⟨by omega, by omega, by omega, by omega, fun e he => by have := sumE_mem he; omega⟩

end Go.Proofs.Ytmfbmnpfgbenmaa

/-
  The laws' copy of a Keep: its rows lie apart from each other.
-/
namespace Go.Proofs.Ytmfbmnpfgbenmaa
open Go.ChangeShapes Go.WideShapes Go.ChangeAt Go.RowKit Go.Joins Go.Deep

/-- Its rows lie apart. -/
structure KvD (k : Kv) : Prop where
  gh : k.ga ≠ k.ha
  es : ∀ e ∈ k.es, e.a ≠ k.sa
  pw : k.es.Pairwise (fun e f => e.a ≠ f.a)

end Go.Proofs.Ytmfbmnpfgbenmaa

/-
  Ranges over functions whose values come in an order that is not known ahead: what may have come so far (Pt), and what has when all have (Fu).
-/
namespace Go.Proofs.Ytmfbmnpfgbenmaa
open Go.RowKit

/-- The rounds of loop l: J b pre M W: pre have come; b: it goes on. -/
def RndsS {α : Type} (P : Program) (l : Nat) (encs : α → Array Value) (Pt : List α → Prop) (J : Bool → List α → (Nat → Prop) → World → Prop) : Prop :=
  ∀ m pre x M W, J true pre M W → (∀ k, M k → k < W.heap.size) → Pt (pre ++ [x]) → YieldAt Fence.wide m P l (encs x) W fun e W' => ∃ b M', e = .returned (.bool b) ∧ J b (pre ++ [x]) M' W' ∧ Grw M M' W W'
/-- How an iterator may end: all have come, or a round has said no. -/
def EndsS {α : Type} (J : Bool → List α → (Nat → Prop) → World → Prop) (Pt Fu : List α → Prop) (M : Nat → Prop) (W W' : World) (b : Bool) : Prop :=
  ∃ pre M', J b pre M' W' ∧ Grw M M' W W' ∧ (b = true → Fu pre) ∧ (b = false → Pt pre)
/-- An iterator: it reads the blocks of R. -/
def IterS {α : Type} (P : Program) (g : Nat) (lb : Array Value) (encs : α → Array Value) (Pt Fu : List α → Prop) (R : Nat → Prop) (w : World) : Prop :=
  ∀ (l : Nat) (J : Bool → List α → (Nat → Prop) → World → Prop) (M : Nat → Prop) (W : World), Kpt R w W → (∀ k, R k → ¬ M k) → (∀ k, M k → k < W.heap.size) → Abd J → RndsS P l encs Pt J → J true [] M W →
    Calls P g (#[.func (.yield l) #[] #[]] ++ lb) W fun e W' => (∃ v, e = .returned v) ∧ ∃ b, EndsS J Pt Fu M W W' b
theorem IterS.later {α : Type} {P : Program} {g : Nat} {lb : Array Value} {encs : α → Array Value} {Pt Fu : List α → Prop} {R : Nat → Prop} {w w1 : World} (h : IterS P g lb encs Pt Fu R w) (hk : Kpt R w w1) : IterS P g lb encs Pt Fu R w1 :=
  fun l J M W h1 h2 h3 h4 h5 h6 => h l J M W (hk.trans h1) h2 h3 h4 h5 h6

end Go.Proofs.Ytmfbmnpfgbenmaa

/-
  A Keep in a box: its rows are one's own, elsewhere than the box.
-/
namespace Go.Proofs.Ytmfbmnpfgbenmaa
open Go.ChangeShapes Go.WideShapes Go.ChangeAt Go.RowKit Go.Joins Go.Deep

theorem OwnG.kpt {α : Type} {K : Kd α} {t : TypeId} {w w' : World} {M : Nat → Prop} {B : Nat} {v : Value} {ps : List α} (h : OwnG K t w B v ps) (hk : Kpt M w w') (hm : ∀ k, v.ownBlock = some k → M k) : OwnG K t w' B v ps := by
  refine ⟨h.1, ?_⟩
  rcases h.2 with h1 | ⟨g, cap, cur, hv, hg, hr, hr'⟩
  · exact Or.inl h1
  · refine Or.inr ⟨g, cap, cur, hv, hg, (hk.block g ?_ (hm g (by rw [hv]; rfl))).trans hr, hr'⟩
    rcases Nat.lt_or_ge g w.heap.size with hlt | hge
    · exact hlt
    · rw [Array.getElem?_eq_none hge] at hr; cases hr
/-- A box of cells. -/
structure Bx (x : World) (p : Nat) (vs : List Value) : Prop where
  cel : ∀ i v, vs[i]? = some v → x.cell? ⟨p, i, none⟩ = some v
  frz : ∀ o, x.frozen? ⟨p, o, none⟩ = false
  lt : p < x.heap.size
theorem Bx.set {x : World} {p : Nat} {vs : List Value} (h : Bx x p vs) (i : Nat) (u v : Value) (hu : vs[i]? = some u) : Bx (x.setCell ⟨p, i, none⟩ v) p (vs.set i v) := by
  refine ⟨fun j y hy => ?_, fun o => by simp [go_sem, h.frz], by simpa using h.lt⟩
  by_cases e : j = i
  · subst e
    have c := h.cel j u hu
    rw [List.getElem?_set_self (by rcases Nat.lt_or_ge j vs.length with h' | h'; exact h'; rw [List.getElem?_eq_none h'] at hu; cases hu)] at hy
    cases hy
    simp [go_sem, c]
  · rw [List.getElem?_set_ne (fun h => e h.symm)] at hy
    have c := h.cel j y hy
    have e' : ¬ i = j := fun h => e h.symm
    simp [go_sem, c]
theorem Bx.later {x y : World} {p : Nat} {vs : List Value} (h : Bx x p vs) (k : Below x.heap.size x y) : Bx y p vs :=
  ⟨fun i v hv => (k.cell (p := ⟨p, i, none⟩) h.lt).trans (h.cel i v hv), fun o => (k.frozen (p := ⟨p, o, none⟩) h.lt).trans (h.frz o), Nat.lt_of_lt_of_le h.lt k.size⟩
theorem Bx.far {x : World} {p : Nat} {vs : List Value} (h : Bx x p vs) {b i : Nat} (hb : b ≠ p) (v : Value) : Bx (x.setCell ⟨b, i, none⟩ v) p vs :=
  have hb' := hb.symm
  ⟨fun j y hy => by have c := h.cel j y hy; simp [go_sem, c], fun o => by simp [go_sem, h.frz], by simpa using h.lt⟩
theorem Bx.new (x : World) (vs : List Value) (t : TypeId) : Bx (x.alloc (.cells vs.toArray t)) x.heap.size vs :=
  ⟨fun i v hv => by simp [go_sem, hv], fun o => by simp [go_sem], by simp⟩
theorem Bx.grown {x y : World} {p : Nat} {row : Option Nat} {vs : List Value} (h : Bx x p vs) (k : x.grownBy y row) (hp : some p ≠ row) : Bx y p vs := by
  have hb : y.heap[p]? = x.heap[p]? := k.block p h.lt hp
  exact ⟨fun i v hv => (World.cell?_of_block (w := x) hb).trans (h.cel i v hv), fun o => (World.frozen?_of_block (w := x) (a := ⟨p, o, none⟩) hb).trans (h.frz o), Nat.lt_of_lt_of_le h.lt k.size⟩
theorem kpt_cell (X : World) (b i : Nat) (v : Value) : Kpt (fun q => q ≠ b) X (X.setCell ⟨b, i, none⟩ v) := ⟨rfl, rfl, rfl, by simp [World.setCell], fun k _ hk => Below.heap_setCell X ⟨b, i, none⟩ v k hk⟩
/-- An entry whose bytes lie in a row of one's own, elsewhere than the log. -/
structure EnS (X : World) (B kb : Nat) (e : En) : Prop where
  hn : e.n = e.zs.length
  ho : Oct e.zs
  n4 : e.n ≤ 400
  own : OwnG KBy 5 X B (.slice e.a e.n e.c) e.zs
  nk : ∀ q, (Value.slice e.a e.n e.c).ownBlock = some q → q ≠ kb
/-- A Keep's rows, elsewhere than the box kb. -/
structure KR (X : World) (B kb : Nat) (k : Kv) (ss : List Int) : Prop where
  hg : k.gn = k.ps.length
  hh : k.hn = k.bs.length
  hs : k.sn = ss.length
  hl : k.ln = k.es.length
  og : OwnG KI 3 X B (.slice k.ga k.gn k.gc) k.ps
  oh : OwnG KI 3 X B (.slice k.ha k.hn k.hc) k.bs
  os : OwnG KBy 5 X B (.slice k.sa k.sn k.sc) ss
  oo : Oct ss
  ol : OwnG KEn 113 X B (.slice k.la k.ln k.lc) k.es
  oe : ∀ e ∈ k.es, EnS X B kb e
  ng : ∀ q, (Value.slice k.ga k.gn k.gc).ownBlock = some q → q ≠ kb
  nh : ∀ q, (Value.slice k.ha k.hn k.hc).ownBlock = some q → q ≠ kb
  ns : ∀ q, (Value.slice k.sa k.sn k.sc).ownBlock = some q → q ≠ kb
  nl : ∀ q, (Value.slice k.la k.ln k.lc).ownBlock = some q → q ≠ kb
theorem KR.kpt {X Y : World} {B kb : Nat} {k : Kv} {ss : List Int} {M : Nat → Prop} (h : KR X B kb k ss) (hk : Kpt M X Y) (hm : ∀ q, B ≤ q → q ≠ kb → M q) : KR Y B kb k ss :=
  ⟨h.hg, h.hh, h.hs, h.hl, h.og.kpt hk (fun q hq => hm q (h.og.lt q hq).1 (h.ng q hq)), h.oh.kpt hk (fun q hq => hm q (h.oh.lt q hq).1 (h.nh q hq)), h.os.kpt hk (fun q hq => hm q (h.os.lt q hq).1 (h.ns q hq)), h.oo, h.ol.kpt hk (fun q hq => hm q (h.ol.lt q hq).1 (h.nl q hq)),
    fun e he => have g := h.oe e he; ⟨g.hn, g.ho, g.n4, g.own.kpt hk (fun q hq => hm q (g.own.lt q hq).1 (g.nk q hq)), g.nk⟩, h.ng, h.nh, h.ns, h.nl⟩
theorem KR.set {X : World} {B kb : Nat} {k : Kv} {ss : List Int} (h : KR X B kb k ss) (i : Nat) (v : Value) : KR (X.setCell ⟨kb, i, none⟩ v) B kb k ss := h.kpt (kpt_cell X kb i v) (fun _ _ hq => hq)
theorem KR.low {X : World} {B kb b : Nat} {k : Kv} {ss : List Int} (h : KR X B kb k ss) (hb : b < B) (i : Nat) (v : Value) : KR (X.setCell ⟨b, i, none⟩ v) B kb k ss := h.kpt (kpt_cell X b i v) (fun q hq _ => by omega)
theorem KR.read {X : World} {B kb : Nat} {k : Kv} {ss : List Int} (h : KR X B kb k ss) : KvR X k := ⟨h.hg, h.hh, h.hl, h.og.row, h.oh.row, h.ol.row, fun e he => ⟨(h.oe e he).hn, (h.oe e he).ho, (h.oe e he).own.row⟩⟩
theorem own_sep {α β : Type} {K : Kd α} {L : Kd β} {t u : TypeId} {X : World} {B C : Nat} {v x : Value} {ps : List α} {qs : List β} (h : OwnG K t X B v ps) (g : OwnG L u X C x qs) (hn : t ≠ u) : ∀ q, v.ownBlock = some q → x.ownBlock ≠ some q := by
  intro q hv hx
  rcases h.2 with ⟨rfl, _⟩ | ⟨b, c, cur, rfl, _, hr, _⟩
  · cases hv
  · rcases g.2 with ⟨rfl, _⟩ | ⟨b', c', cur', rfl, _, hr', _⟩
    · cases hx
    · have e1 : b = q := Option.some.inj hv
      have e2 : b' = q := Option.some.inj hx
      rw [e1] at hr
      rw [e2] at hr'
      rw [hr] at hr'
      have := Option.some.inj hr'
      simp at this
      exact hn this.2
/-- A Keep's cells. -/
def Kv.cs (k : Kv) : List Value := [.int .i64 k.T, .int .i64 k.V, .int .i64 k.B, .int .i64 k.E, .slice k.ga k.gn k.gc, .slice k.ha k.hn k.hc, .slice k.sa k.sn k.sc, .slice k.la k.ln k.lc]

end Go.Proofs.Ytmfbmnpfgbenmaa

/-
  The specification's l13Entries: the same entries in rows of its own.
-/
namespace Go.Proofs.Ytmfbmnpfgbenmaa
open Go.ChangeShapes Go.WideShapes Go.ChangeAt Go.RowKit Go.Joins Go.Deep

/-- An entry whose bytes lie in a row of one's own. -/
structure EnW (X : World) (B : Nat) (e : En) : Prop where
  hn : e.n = e.zs.length
  ho : Oct e.zs
  n4 : e.n ≤ 400
  own : OwnG KBy 5 X B (.slice e.a e.n e.c) e.zs
theorem EnW.later {X Y : World} {B : Nat} {e : En} (h : EnW X B e) (hb : Below X.heap.size X Y) : EnW Y B e := ⟨h.hn, h.ho, h.n4, h.own.later hb⟩
theorem EnW.app {X Y : World} {B : Nat} {e : En} {v : Value} {fs : List En} (h : EnW X B e) (g : OwnG KEn 113 X B v fs) (hg : X.grownBy Y v.ownBlock) : EnW Y B e :=
  ⟨h.hn, h.ho, h.n4, h.own.kpt (M := fun q => some q ≠ v.ownBlock) ⟨hg.os, hg.tape, hg.output, hg.size, fun q hq hn => hg.block q hq hn⟩ (fun q hq e => own_sep h.own g (by decide) q hq e.symm)⟩
/-- It can be copied. -/
structure EnC (w : World) (e : En) : Prop where
  dat : DatR w e
  n4 : e.n ≤ 400
  nc : e.a = none → e.c = 0

set_option maxRecDepth 10000 in
set_option maxHeartbeats 8000000 in
theorem l13Entries_any (la : Option Addr) (ln lc : Nat) (es : List En) (w : World) (hl : ln = es.length) (hR : RowG KEn w la es) (hD : ∀ e ∈ es, EnC w e) (hz : ln ≤ 200) :
    Calls Try.prog 93 #[.slice la ln lc] w fun e w' => ∃ a' c' fs, e = .returned (.slice a' ln c') ∧ ln = fs.length ∧ fs.map En.key = es.map En.key ∧ OwnG KEn 113 w' w.heap.size (.slice a' ln c') fs ∧ (∀ e ∈ fs, EnW w' w.heap.size e) ∧ Below w.heap.size w w' := by
  have HR := hidP (And.intro hR hD)
  have HN := hidP hl
  have HO0 := hidP (own_zeroG KEn w w.heap.size 113 (Nat.le_refl _))
  have HB0 := hidP (alloc_below w (.cells #[] 113))
  clear hR hD hl
  go_enter Try.func93, Try.ntmps93
  go_wp2_with fail
  generalize w.alloc (.cells #[] 113) = W1 at *
  go_loopw [3, 4] (fun t3 t4 wr => ∃ (a' : Option Addr) (c' : Nat) (fs : List En), fs.length ≤ ln ∧ t4 = .int .i64 fs.length ∧ t3 = .slice a' fs.length c' ∧ fs.map En.key = (es.take fs.length).map En.key ∧ OwnG KEn 113 wr w.heap.size (.slice a' fs.length c') fs ∧ (∀ e ∈ fs, EnW wr w.heap.size e) ∧ Below w.heap.size w wr) (fun _ t4 _ => ln - (intOf t4).toNat)
  case atStart => exact ⟨_, _, [], Nat.zero_le _, rfl, rfl, rfl, HO0.out, (fun e he => by cases he), HB0.out⟩
  case round =>
    obtain ⟨a', c', fs, hk, rfl, rfl, hke, hown, hfs, hbel⟩ := hrel
    have HK0 := hidP hke
    have HF := hidP (And.intro hown (And.intro hfs hbel))
    generalize hkk : fs.length = i at *
    have HKK := hidP hkk
    clear hke hkk hown hfs hbel HO0 HB0
    by_cases hlt : i < ln
    · obtain ⟨p, o, q, rfl, hp, hq, c0, c1, c2⟩ := rowEn HR.out.1 i (by have := HN.out; omega)
      have hC := HR.out.2 q (List.mem_of_getElem? hq)
      have HC := hidP hC
      have HQ := hidP hq
      have i0 : (0 : Int) ≤ (i : Int) := by omega
      have i1 : (i : Int) < (ln : Int) := by omega
      have hsz : w.heap.size ≤ wr.heap.size := HF.out.2.2.size
      have HSx : Hid (∀ x, Below w.heap.size w x → (x.cell? ⟨p, o + i * 3, none⟩ = some (.int .i64 q.T) ∧ x.cell? ⟨p, o + i * 3 + 1, none⟩ = some (.int .i64 q.K) ∧ x.cell? ⟨p, o + i * 3 + 2, none⟩ = some (.slice q.a q.n q.c))) := hidP fun x h => ⟨(h.cell hp).trans c0, (h.cell hp).trans c1, (h.cell hp).trans c2⟩
      clear hq hC c0 c1 c2
      go_wp2_with fail
      refine wp_region_held_drew (S := (fun x => x.cell? ⟨p, o + i * 3, none⟩ = some (.int .i64 q.T) ∧ x.cell? ⟨p, o + i * 3 + 1, none⟩ = some (.int .i64 q.K) ∧ x.cell? ⟨p, o + i * 3 + 2, none⟩ = some (.slice q.a q.n q.c))) (by kernel_rfl) ?_ (fun hHeld => ?_)
      · try dsimp only
        exact HSx.out _ HF.out.2.2.drew
      have HD0 := hidP (And.intro (HF.out.1.later (Below.refl wr.heap.size wr).drew) (And.intro (fun e he => (HF.out.2.1 e he).later (Below.refl wr.heap.size wr).drew) HF.out.2.2.drew))
      have hsd : w.heap.size ≤ wr.drew.heap.size := hsz
      clear HF hsz
      generalize wr.drew = wd at *
      refine tk 0 12 rfl ?_
      simp only [pa]
      refine tk 1 13 rfl ?_
      simp only [pa]
      refine tk 2 14 rfl ?_
      simp only [pa]
      refine tk 3 15 rfl ?_
      simp only [pa]
      refine tk 4 16 rfl ?_
      simp only [pa]
      refine tk 5 17 rfl ?_
      simp only [pa]
      refine tk 6 18 rfl ?_
      simp only [pa]
      refine tk 7 19 rfl ?_
      simp only [pa]
      refine tk 8 20 rfl ?_
      simp only [pa]
      refine tk 9 21 rfl ?_
      simp only [pa]
      refine tk 10 22 rfl ?_
      simp only [pa]
      refine tk 12 24 rfl ?_
      simp only [pa]
      refine tk 13 25 rfl ?_
      simp only [pa]
      refine tk 14 26 rfl ?_
      simp only [pa]
      refine tk 15 27 rfl ?_
      simp only [pa]
      refine tk 16 28 rfl ?_
      simp only [pa]
      refine wpAnyH_ready (rs := [11]) (by kernel_rfl) (by simp) ?_
      refine AllReadyH.cons rfl (fun K hK => ?_) AllReadyH.nil
      go_simp
      have z3 := own_zeroG KBy wd wd.heap.size 5 (Nat.le_refl _)
      have zb3 := alloc_below wd (.cells #[] 5)
      have zs3 : wd.heap.size + 1 ≤ (wd.alloc (.cells #[] 5)).heap.size := by simp
      generalize wd.alloc (.cells #[] 5) = w3 at *
      have HB3 := hidP (fun e he => OwnG.lt ((HD0.out.2.1 e he).own))
      have HD3 := hidP (And.intro (HD0.out.1.later zb3) (And.intro (fun e he => (HD0.out.2.1 e he).later zb3) (HD0.out.2.2.trans (zb3.mono hsd))))
      clear zb3 HD0
      refine hK.out _ _ ?_ (fun hHeld => ?_)
      · try dsimp only
        exact HSx.out _ HD3.out.2.2
      clear hK K
      refine wpAnyH_ready (rs := [17]) (by kernel_rfl) (by simp) ?_
      refine AllReadyH.cons rfl (fun K hK => ?_) AllReadyH.nil
      refine step_appG Try.tyBy _ rfl (.tmp 23) (.tmp 28) 52 rfl wd.heap.size (some ⟨wd.heap.size, 0, none⟩) 0 0 q.n [] q.zs (.slice q.a q.n q.c) rfl rfl HC.out.dat.1 z3 rfl (src_rowG Try.tyBy.1 q.n q.c (by show 0 < 1; omega) HC.out.dat.1 (HC.out.dat.2.2.later HD3.out.2.2) HC.out.nc) (by have := HC.out.n4; omega) (by omega) ?_
      intro a4 c4 w4 ho4 hg4 ht4
      rw [Nat.zero_add, List.nil_append] at ho4
      have hb4 : Below wd.heap.size w3 w4 := (Below.refl _ w3).grown hg4 (by omega) (fun k hk => by have : wd.heap.size = k := Option.some.inj hk; omega)
      have hg4s := hg4.size
      have HW4 : Hid (EnW w4 w.heap.size ⟨q.T, q.K, a4, q.n, c4, q.zs⟩) := hidP ⟨HC.out.dat.1, HC.out.dat.2.1, HC.out.n4, ho4.mono hsd⟩
      have ne4 : (113 : TypeId) ≠ 5 := by decide
      have HD4 : Hid (OwnG KEn 113 w4 w.heap.size (.slice a' i c') fs ∧ (∀ e ∈ fs, EnW w4 w.heap.size e) ∧ Below w.heap.size w w4) := hidP ⟨HD3.out.1.grown hg4 (fun k hk he => own_sep HD3.out.1 z3 ne4 k hk he), fun e he => ⟨(HD3.out.2.1 e he).hn, (HD3.out.2.1 e he).ho, (HD3.out.2.1 e he).n4, (HD3.out.2.1 e he).own.grown hg4 (fun k hk hx => by have h1 := (HB3.out e he k hk).2; have h2 : wd.heap.size = k := Option.some.inj hx; omega)⟩, HD3.out.2.2.trans (hb4.mono hsd)⟩
      clear hg4 ht4 ho4 hb4 z3
      refine hK.out _ _ ?_ (fun hHeld => ?_)
      · try dsimp only
        exact HSx.out _ HD4.out.2.2
      clear hK K
      refine tk 18 30 rfl ?_
      simp only [Act.put, List.setIfInBounds_toArray]
      refine wpAnyH_ready (rs := [19]) (by kernel_rfl) (by simp) ?_
      refine AllReadyH.cons rfl (fun K hK => ?_) AllReadyH.nil
      go_simp
      have sO : OwnG KEn 113 (w4.alloc (.cells #[.int .i64 q.T, .int .i64 q.K, .slice a4 q.n c4] 113)) w4.heap.size (.slice (some ⟨w4.heap.size, 0, none⟩) 1 1) [⟨q.T, q.K, a4, q.n, c4, q.zs⟩] := own_oneG KEn w4 w4.heap.size 113 ⟨q.T, q.K, a4, q.n, c4, q.zs⟩ (Nat.le_refl _)
      have zb5 := alloc_below w4 (.cells #[.int .i64 q.T, .int .i64 q.K, .slice a4 q.n c4] 113)
      generalize w4.alloc (.cells #[.int .i64 q.T, .int .i64 q.K, .slice a4 q.n c4] 113) = w5 at *
      have HS5 := hidP (src_rowG Try.tyEn.1 1 1 (by show 0 < 3; omega) rfl sO.row (fun h => by cases h))
      have hb5 := HD4.out.2.2.trans (zb5.mono HD4.out.2.2.size)
      have HD5 := hidP (And.intro (HD4.out.1.later zb5) (And.intro (fun e he => (HD4.out.2.1 e he).later zb5) hb5))
      have HW5 := hidP (HW4.out.later zb5)
      clear sO zb5 HD4 HW4
      refine hK.out _ _ ?_ (fun hHeld => ?_)
      · try dsimp only
        exact HSx.out _ hb5
      clear hK K
      refine wpAnyH_ready (rs := [20]) (by kernel_rfl) (by simp) ?_
      refine AllReadyH.cons rfl (fun K hK => ?_) AllReadyH.nil
      refine step_appG Try.tyEn _ rfl (.tmp 12) (.tmp 31) 28 rfl w.heap.size a' i c' 1 fs [⟨q.T, q.K, a4, q.n, c4, q.zs⟩] (.slice (some ⟨w4.heap.size, 0, none⟩) 1 1) rfl HKK.out.symm rfl HD5.out.1 rfl HS5.out (by omega) HD5.out.2.2.size ?_
      intro a6 c6 w6 ho6 hg6 ht6
      have hb6 : Below w.heap.size w w6 := hb5.grown hg6 HD5.out.2.2.size (fun k hk => (HD5.out.1.lt k hk).1)
      have HD6 := hidP (And.intro ho6 (And.intro (fun e he => (HD5.out.2.1 e he).app HD5.out.1 hg6) (HW5.out.app HD5.out.1 hg6)))
      clear hg6 ht6 ho6
      refine hK.out _ _ ?_ (fun hHeld => ?_)
      · try dsimp only
        exact HSx.out _ hb6
      clear hK K
      refine tk 21 3 rfl ?_
      simp only [Act.put, List.setIfInBounds_toArray]
      refine wpAnyH_done (by kernel_rfl) ?_ _
      have HB6 := hidP hb6
      clear hHeld hb5 hb6
      go_wp2_with fail
      go_roundw
      case rel =>
        refine ⟨a6, c6, fs ++ [⟨q.T, q.K, a4, q.n, c4, q.zs⟩], by rw [List.length_append, HKK.out]; show i + 1 ≤ ln; omega, by rw [List.length_append, HKK.out]; go_num, by rw [List.length_append, HKK.out]; rfl, ?_, ?_, ?_, HB6.out⟩
        · rw [List.length_append, HKK.out, List.map_append, HK0.out]
          show _ = (es.take (i + 1)).map En.key
          rw [List.take_add_one, HQ.out, List.map_append]
          rfl
        · rw [List.length_append, HKK.out]; exact HD6.out.1
        · intro e he
          rcases List.mem_append.1 he with he | he
          · exact HD6.out.2.1 e he
          · rw [List.mem_singleton.1 he]; exact HD6.out.2.2
      case measure => simp [intOf]; omega
    · have hkn : ln = i := by omega
      subst hkn
      go_wp2_with fail
      go_ret
      refine ⟨a', c', fs, rfl, HKK.out.symm, ?_, HF.out.1, HF.out.2.1, HF.out.2.2⟩
      have := HK0.out
      rw [HN.out, List.take_length] at this
      exact this

end Go.Proofs.Ytmfbmnpfgbenmaa
