/-
  The laws' copies of a message's lists, looks at them and their sizes.
-/
import Derived.Test.YtlbjmmmadoehbaaZR25
import Derived.RangeFuncNested
import Derived.RangeFuncBound
import Derived.RangeFuncCalls
import Derived.RangeFuncLeaves
import Derived.Shelf.Abstract
import Derived.Shelf.RegionOpen
import Derived.WalkKit
import Derived.OwnWalkIn
import Derived.TacticsInMore
import Derived.LoopNIn
import Derived.LoopIn
namespace Go.Proofs.Ytlbjmmmadoehbaa
open Go.ChangeShapes Go.WideShapes Go.ChangeAt Go.RowKit Go.Joins Go.Deep

/-- All their bytes. -/
def sumE : List En → Int
  | [] => 0
  | e :: t => e.n + sumE t
theorem sumE_nn : ∀ es : List En, 0 ≤ sumE es
  | [] => Int.le_refl _
  | e :: t => by have := sumE_nn t; unfold sumE; omega

end Go.Proofs.Ytlbjmmmadoehbaa

/-
  A range over a function, told by footprints: a set M of blocks is the rounds' own; the iterator turns no block of M, a round turns no block that lay outside M. Nothing is asked of the depth.
-/
namespace Go.Proofs.Ytlbjmmmadoehbaa
open Go.RowKit

/-- The blocks of M lie as they lay. -/
structure Kpt (M : Nat → Prop) (A B : World) : Prop where
  os : B.os = A.os
  tape : B.tape = A.tape
  output : B.output = A.output
  size : A.heap.size ≤ B.heap.size
  block : ∀ k, k < A.heap.size → M k → B.heap[k]? = A.heap[k]?

theorem Kpt.refl (M : Nat → Prop) (A : World) : Kpt M A A := ⟨rfl, rfl, rfl, Nat.le_refl _, fun _ _ _ => rfl⟩
theorem Kpt.mono {M N : Nat → Prop} {A B : World} (h : Kpt M A B) (hn : ∀ k, N k → M k) : Kpt N A B := ⟨h.os, h.tape, h.output, h.size, fun k hk hm => h.block k hk (hn k hm)⟩
theorem Kpt.trans {M : Nat → Prop} {A B C : World} (h : Kpt M A B) (g : Kpt M B C) : Kpt M A C :=
  ⟨g.os.trans h.os, g.tape.trans h.tape, g.output.trans h.output, Nat.le_trans h.size g.size, fun k hk hm => (g.block k (Nat.lt_of_lt_of_le hk h.size) hm).trans (h.block k hk hm)⟩
theorem Kpt.ofBelow {A B : World} (M : Nat → Prop) (h : Below A.heap.size A B) : Kpt M A B := ⟨h.os, h.tape, h.output, h.size, fun k hk _ => h.block k hk⟩
theorem Kpt.below {n : Nat} {A B : World} (h : Kpt (fun k => k < n) A B) (hn : n ≤ A.heap.size) : Below n A B := ⟨h.os, h.tape, h.output, h.size, fun k hk => h.block k (by omega) hk⟩
theorem Kpt.cell {M : Nat → Prop} {A B : World} (h : Kpt M A B) {p : Addr} (hp : p.block < A.heap.size) (hm : M p.block) : B.cell? p = A.cell? p := World.cell?_of_block (w := A) (h.block p.block hp hm)
/-- Behind a round (or a part of the iterator): what was none of M's lies; the new M' has of the old blocks none but M's. -/
structure Grw (M M' : Nat → Prop) (A B : World) : Prop where
  kept : Kpt (fun k => ¬ M k) A B
  old : ∀ k, M' k → k < A.heap.size → M k
  fit : ∀ k, M' k → k < B.heap.size

theorem Grw.trans {M M' M'' : Nat → Prop} {A B C : World} (h : Grw M M' A B) (g : Grw M' M'' B C) : Grw M M'' A C :=
  ⟨⟨g.kept.os.trans h.kept.os, g.kept.tape.trans h.kept.tape, g.kept.output.trans h.kept.output, Nat.le_trans h.kept.size g.kept.size, fun k hk hm =>
      (g.kept.block k (Nat.lt_of_lt_of_le hk h.kept.size) (fun h' => hm (h.old k h' hk))).trans (h.kept.block k hk hm)⟩,
    fun k hk hl => h.old k (g.old k hk (Nat.lt_of_lt_of_le hl h.kept.size)) hl, g.fit⟩
theorem Grw.ofBelow {M : Nat → Prop} {A B : World} (h : Below A.heap.size A B) (hf : ∀ k, M k → k < A.heap.size) : Grw M M A B :=
  ⟨Kpt.ofBelow _ h, fun _ hm _ => hm, fun k hm => Nat.lt_of_lt_of_le (hf k hm) h.size⟩
theorem Grw.refl {M : Nat → Prop} {A : World} (hf : ∀ k, M k → k < A.heap.size) : Grw M M A A := Grw.ofBelow (Below.refl _ A) hf

def Abd {α : Type} (J : Bool → List α → (Nat → Prop) → World → Prop) : Prop := ∀ b pre M A B, J b pre M A → Kpt M A B → J b pre M B

end Go.Proofs.Ytlbjmmmadoehbaa

/-
  Boxes of cells, and what lies in blocks from a bound on.
-/
namespace Go.Proofs.Ytlbjmmmadoehbaa
open Go.ChangeShapes Go.WideShapes Go.ChangeAt Go.RowKit Go.Joins Go.Deep

theorem own_kpt {α : Type} {K : Kd α} {t : TypeId} {w w' : World} {M : Nat → Prop} {B : Nat} {v : Value} {ps : List α} (h : OwnG K t w B v ps) (hk : Kpt M w w') (hm : ∀ k, B ≤ k → M k) : OwnG K t w' B v ps := by
  refine ⟨h.1, ?_⟩
  rcases h.2 with h1 | ⟨g, cap, cur, hv, hg, hr, hr'⟩
  · exact Or.inl h1
  · refine Or.inr ⟨g, cap, cur, hv, hg, (hk.block g ?_ (hm g hg)).trans hr, hr'⟩
    rcases Nat.lt_or_ge g w.heap.size with hlt | hge
    · exact hlt
    · rw [Array.getElem?_eq_none hge] at hr; cases hr
theorem EnO.kpt {w w' : World} {M : Nat → Prop} {B G : Nat} {e : En} (h : EnO w B G e) (hk : Kpt M w w') (hm : ∀ k, B ≤ k → M k) : EnO w' B G e := ⟨h.hn, h.ho, own_kpt h.own hk hm, h.ne⟩
theorem kpt_setN {B : Nat} {A V : World} (h : Kpt (fun k => B ≤ k) A V) {b i : Nat} (hb : b < B) (u : Value) : Kpt (fun k => B ≤ k) A (V.setCell ⟨b, i, none⟩ u) :=
  h.trans ⟨rfl, rfl, rfl, by simp [World.setCell], fun k _ hk => Below.heap_setCell V ⟨b, i, none⟩ u k (by show k ≠ b; omega)⟩
theorem kpt_bel {M : Nat → Prop} {A X Y : World} (h : Kpt M A X) (hb : Below X.heap.size X Y) : Kpt M A Y := h.trans (Kpt.ofBelow M hb)

end Go.Proofs.Ytlbjmmmadoehbaa

/-
  A Keep that came in: the laws' copies of it, looks at it, its size.
-/
namespace Go.Proofs.Ytlbjmmmadoehbaa
open Go.ChangeShapes Go.WideShapes Go.ChangeAt Go.RowKit Go.Joins Go.Deep

/-- It can be read, all of it. -/
structure KvF (w : World) (k : Kv) (ss : List Int) : Prop where
  r : KvR w k
  hs : k.sn = ss.length
  os : Oct ss
  rs : RowG KBy w k.sa ss
theorem KvF.later {w w' : World} {k : Kv} {ss : List Int} (h : KvF w k ss) (hb : Below w.heap.size w w') : KvF w' k ss := ⟨h.r.later hb, h.hs, h.os, h.rs.later hb⟩
/-- It is not too long. -/
structure KvS (k : Kv) : Prop where
  hg : k.gn ≤ 1048576
  hh : k.hn ≤ 1048576
  hs : k.sn ≤ 1048576
  hl : k.ln ≤ 1048576
  hz : ∀ e ∈ k.es, e.n ≤ 1048576
/-- The same Keep, elsewhere. -/
structure KvE (m k : Kv) : Prop where
  T : k.T = m.T
  V : k.V = m.V
  B : k.B = m.B
  E : k.E = m.E
  gn : k.gn = m.gn
  hn : k.hn = m.hn
  sn : k.sn = m.sn
  ln : k.ln = m.ln
  ps : k.ps = m.ps
  bs : k.bs = m.bs
  es : k.es.map En.key = m.es.map En.key
theorem KvE.s {m k : Kv} (h : KvE m k) (hs : KvS m) : KvS k := by
  refine ⟨by rw [h.gn]; exact hs.hg, by rw [h.hn]; exact hs.hh, by rw [h.sn]; exact hs.hs, by rw [h.ln]; exact hs.hl, fun e he => ?_⟩
  have h1 : e.key ∈ k.es.map En.key := List.mem_map.2 ⟨e, he, rfl⟩
  rw [h.es] at h1
  obtain ⟨f, hf, hk⟩ := List.mem_map.1 h1
  have : e.n = f.n := congrArg (fun x => x.2.2.1) hk.symm
  rw [this]
  exact hs.hz f hf
/-- Its rows are one's own. -/
structure KvO (w : World) (D : Nat) (k : Kv) (ss : List Int) : Prop where
  hg : k.gn = k.ps.length
  hh : k.hn = k.bs.length
  hs : k.sn = ss.length
  hl : k.ln = k.es.length
  ot : Oct ss
  og : OwnG KI 3 w D (.slice k.ga k.gn k.gc) k.ps
  oh : OwnG KI 3 w D (.slice k.ha k.hn k.hc) k.bs
  os : OwnG KBy 5 w D (.slice k.sa k.sn k.sc) ss
  ol : OwnG KEn 67 w D (.slice k.la k.ln k.lc) k.es
  oe : ∀ e ∈ k.es, (e.n = e.zs.length ∧ Oct e.zs ∧ OwnG KBy 5 w D (.slice e.a e.n e.c) e.zs) ∧ EnF e
theorem KvO.later {w w' : World} {D : Nat} {k : Kv} {ss : List Int} (h : KvO w D k ss) (hb : Below w.heap.size w w') : KvO w' D k ss := ⟨h.hg, h.hh, h.hs, h.hl, h.ot, h.og.later hb, h.oh.later hb, h.os.later hb, h.ol.later hb, fun e he => ⟨⟨(h.oe e he).1.1, (h.oe e he).1.2.1, (h.oe e he).1.2.2.later hb⟩, (h.oe e he).2⟩⟩
theorem KvO.mono {w : World} {D C : Nat} {k : Kv} {ss : List Int} (h : KvO w D k ss) (hb : C ≤ D) : KvO w C k ss := ⟨h.hg, h.hh, h.hs, h.hl, h.ot, h.og.mono hb, h.oh.mono hb, h.os.mono hb, h.ol.mono hb, fun e he => ⟨⟨(h.oe e he).1.1, (h.oe e he).1.2.1, (h.oe e he).1.2.2.mono hb⟩, (h.oe e he).2⟩⟩
theorem KvO.f {w : World} {D : Nat} {k : Kv} {ss : List Int} (h : KvO w D k ss) : KvF w k ss := ⟨⟨h.hg, h.hh, h.hl, h.og.row, h.oh.row, h.ol.row, fun e he => ⟨(h.oe e he).1.1, (h.oe e he).1.2.1, (h.oe e he).1.2.2.row⟩⟩, h.hs, h.ot, h.os.row⟩
/-- All that it holds. -/
def totK (k : Kv) : Int := ((k.gn : Int) + (k.hn : Int)) + ((k.sn : Int) + ((k.ln : Int) + sumE k.es))
theorem sumE_mem : ∀ {es : List En} {e : En}, e ∈ es → (e.n : Int) ≤ sumE es
  | x :: t, e, h => by
      have h0 := sumE_nn t
      show (e.n : Int) ≤ x.n + sumE t
      rcases List.mem_cons.1 h with rfl | h
      · omega
      · have := sumE_mem h
        omega
theorem KvS.of {k : Kv} (h : totK k ≤ 1048576) : KvS k := by
  have h0 := sumE_nn k.es
  unfold totK at h
  exact ⟨by omega, by omega, by omega, by omega, fun e he => by have := sumE_mem he; omega⟩

end Go.Proofs.Ytlbjmmmadoehbaa
