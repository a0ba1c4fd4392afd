/-
  What sameState_holds needs, part 1.
-/
import Derived.Test.YtngcbhbcocnbeaaRows
import Derived.Deep.RegionHeld3
import Derived.WalkKit
import Derived.WalkSpells
import Derived.WalkLawsBesides
import Derived.Deep.AppendSrc
import Derived.OwnWalk
import Derived.Deep.RegionWith
import Derived.Deep.DeepCutAuto
import Derived.Carry
import Derived.Deep.Slices
import Derived.ChangeMaps5
import Derived.Lib.SmallJoins
import Derived.ProofKit
import Derived.Deep.QuietTactic
import Derived.BigQuiet
import Derived.Lib.SlicesCompact
namespace Go.Proofs.Ytngcbhbcocnbeaa

/-- What lies in the slots behind an operation. -/
theorem pa : (∀ (a : Act) (d : Tmp) (v : Value), a.put (some d) v = { a with tmps := a.tmps.setIfInBounds d v }) ∧ (∀ (a : Act) (v : Value), a.put none v = a) ∧
    (∀ (l : List Value) (i : Nat) (v : Value), l.toArray.setIfInBounds i v = (l.set i v).toArray) ∧ (∀ (x v : Value) (l : List Value), (x :: l).set 0 v = v :: l) ∧ (∀ (x v : Value) (l : List Value) (n : Nat), (x :: l).set (n + 1) v = x :: l.set n v) ∧
    (∀ (l : List Bool) (i : Nat) (v : Bool), l.toArray.setIfInBounds i v = (l.set i v).toArray) ∧ (∀ (x v : Bool) (l : List Bool), (x :: l).set 0 v = v :: l) ∧ (∀ (x v : Bool) (l : List Bool) (n : Nat), (x :: l).set (n + 1) v = x :: l.set n v) :=
  ⟨fun _ _ _ => rfl, fun _ _ => rfl, fun _ _ _ => List.setIfInBounds_toArray .., fun _ _ _ => rfl, fun _ _ _ _ => rfl, fun _ _ _ => List.setIfInBounds_toArray .., fun _ _ _ => rfl, fun _ _ _ _ => rfl⟩
theorem tkA {P : Program} {ops : Array Oper} {Q : Exit → Act → World → Prop} {md : Region.Mode} {S : World → Prop} (i d : Nat) {op : Op} {ty : TypeId} {ps : String} {af : Array Edge} {gd : Option (Nat × Bool)} {v : Value} {fuel : Nat} {listed : Array Bool} {a : Act} {w : World} (hi : ops[i]? = some (⟨some d, op, ty, ps, af, gd⟩ : Oper))
    (hb : (Region.noSelect ops && (Region.free md ops listed i && (Region.ready md ops listed).contains i)) = true) (hQ : ∀ c a w, Q (.panic c) (a.put (some d) v) w → Q (.panic c) a w)
    (hw : Region.wanted (⟨some d, op, ty, ps, af, gd⟩ : Oper) (yielded ops a.tmps) = true) (hy : ∀ w, S w → (execOp a.eval (⟨some d, op, ty, ps, af, gd⟩ : Oper)).run P w = .ok (.value v) w) (hS : S w)
    (h : wpAnyH P md ops Q S fuel (listed.setIfInBounds i true) (a.put (some d) v) w) : wpAnyH P md ops Q S (fuel + 1) listed a w := by
  rw [Bool.and_eq_true, Bool.and_eq_true] at hb
  exact wpAnyH_take hi hb.1 hb.2.1 hb.2.2 hQ (Or.inl ⟨hw, hy⟩) hS h

end Go.Proofs.Ytngcbhbcocnbeaa
namespace Go.Proofs.Ytngcbhbcocnbeaa
open Go.RowKit

def okB (s : Bool) (h l : Int) : Bool := s || (h == 0 && (decide (0 ≤ l) && decide (l ≤ 4294967295)))

set_option maxHeartbeats 400000 in
theorem toAddr_any (s : Bool) (h l : Int) (w : World) :
    Calls Try.prog 49 #[.agg #[.bool s, .int .i64 h, .int .i64 l]] w fun e w' => e = .returned (.agg #[.bool s, .int .i64 h, .int .i64 l]) ∧ Below w.heap.size w w' := by
  go_enter Try.func49, Try.ntmps49
  go_wp2
  exact bodyPost_ret (v := .agg #[.bool s, .int .i64 h, .int .i64 l]) (by simp [results, Try.results49, go_sem]) rfl ⟨rfl, (((Below.refl _ _).alloc (Nat.le_refl _) _).alloc (by simp) _).alloc (by simp; omega) _⟩

/-- What lay below n reads as it did, behind whatever only makes memory from n on: two rules for a walk. -/
theorem olds {W w1 : World} {n : Nat} (hb : Below n W w1) :
    (∀ b o, b < n → w1.cell? ⟨b, o, none⟩ = W.cell? ⟨b, o, none⟩) ∧ (∀ b o, b < n → w1.frozen? ⟨b, o, none⟩ = W.frozen? ⟨b, o, none⟩) :=
  ⟨fun _ _ h => hb.cell h, fun _ _ h => hb.frozen h⟩

theorem olds_k {K : Prop} {W w1 : World} {B : Nat} (n : Nat) (hb : Below B W w1) (hn : n ≤ B)
    (k : (∀ b o, b < n → w1.cell? ⟨b, o, none⟩ = W.cell? ⟨b, o, none⟩) → (∀ b o, b < n → w1.frozen? ⟨b, o, none⟩ = W.frozen? ⟨b, o, none⟩) → K) : K :=
  k (olds (hb.mono hn)).1 (olds (hb.mono hn)).2

end Go.Proofs.Ytngcbhbcocnbeaa
namespace Go.Proofs.Ytngcbhbcocnbeaa
open Go.RowKit

theorem hidP {p : Prop} (h : p) : Hid p := h

/-- Four cells: a bool, two words, a number. -/
structure Pf where
  s : Bool
  H : BitVec 64
  L : BitVec 64
  b : Int

def Pf.cs (p : Pf) : List Value := [.bool p.s, .int .i64 p.H.toInt, .int .i64 p.L.toInt, .int .i64 p.b]
def flat : List Pf → List Value
  | [] => []
  | p :: t => p.cs ++ flat t
theorem flat_at : ∀ (ps : List Pf) (j : Nat) (q : Pf), ps[j]? = some q → (flat ps)[j * 4]? = some (.bool q.s) ∧ (flat ps)[j * 4 + 1]? = some (.int .i64 q.H.toInt) ∧ (flat ps)[j * 4 + 2]? = some (.int .i64 q.L.toInt) ∧ (flat ps)[j * 4 + 3]? = some (.int .i64 q.b)
  | [], j, q, h => by simp at h
  | p :: t, 0, q, h => by
      simp at h; subst h; simp [flat, Pf.cs]
  | p :: t, j + 1, q, h => by
      have := flat_at t j q (by simpa using h)
      have e : ∀ i, (flat (p :: t))[(j + 1) * 4 + i]? = (flat t)[j * 4 + i]? := fun i => by
        show (p.cs ++ flat t)[(j + 1) * 4 + i]? = _
        rw [List.getElem?_append_right (by simp [Pf.cs]; omega)]
        congr 1
        simp [Pf.cs]; omega
      have e0 := e 0
      rw [Nat.add_zero, Nat.add_zero] at e0
      rw [e0, e 1, e 2, e 3]
      exact this

/-- What is read of a row. -/
def Row (w : World) (a : Option Addr) (ps : List Pf) : Prop := ∀ j, j < ps.length → ∃ p o q, a = some ⟨p, o, none⟩ ∧ p < w.heap.size ∧ ps[j]? = some q ∧
  w.cell? ⟨p, o + j * 4, none⟩ = some (.bool q.s) ∧ w.cell? ⟨p, o + j * 4 + 1, none⟩ = some (.int .i64 q.H.toInt) ∧ w.cell? ⟨p, o + j * 4 + 2, none⟩ = some (.int .i64 q.L.toInt) ∧ w.cell? ⟨p, o + j * 4 + 3, none⟩ = some (.int .i64 q.b)
/-- A row of one's own. -/
def OwnR (t : TypeId) (w : World) (B : Nat) (v : Value) (ps : List Pf) : Prop := w.ownsRow B t 4 v ps.length (flat ps)

theorem Row.later {w w' : World} {a : Option Addr} {ps : List Pf} (h : Row w a ps) (hb : Below w.heap.size w w') : Row w' a ps := fun j hj => by
  obtain ⟨p, o, q, ha, hp, hq, c0, c1, c2, c3⟩ := h j hj
  exact ⟨p, o, q, ha, Nat.lt_of_lt_of_le hp hb.size, hq, (hb.cell hp).trans c0, (hb.cell hp).trans c1, (hb.cell hp).trans c2, (hb.cell hp).trans c3⟩
theorem Row.nil (w : World) (a : Option Addr) : Row w a [] := fun j hj => absurd hj (Nat.not_lt_zero j)
theorem OwnR.row {t : TypeId} {w : World} {B n cap : Nat} {a : Option Addr} {ps : List Pf} (h : OwnR t w B (.slice a n cap) ps) : Row w a ps := fun j hj => by
  rcases h.2 with ⟨hv, hn⟩ | ⟨g, c, cur, hv, _, hg, _⟩
  · omega
  · simp at hv
    obtain ⟨rfl, rfl, rfl⟩ := hv
    have hq : ps[j]? = some ps[j] := List.getElem?_eq_getElem hj
    obtain ⟨c0, c1, c2, c3⟩ := flat_at ps j _ hq
    have k := fun (i : Nat) (hi : i < 4) => World.ownsRow.cellAt h (j * 4 + i) (by omega : j * 4 + i < ps.length * 4)
    refine ⟨g, 0, ps[j], rfl, ?_, hq, ?_, ?_, ?_, ?_⟩
    · rcases Nat.lt_or_ge g w.heap.size with h' | h'
      · exact h'
      · rw [Array.getElem?_eq_none h'] at hg; cases hg
    · have := k 0 (by omega : 0 < 4); rw [Nat.zero_add]; rw [Nat.add_zero] at this; rw [this, c0]
    · have := k 1 (by omega : 1 < 4); rw [Nat.zero_add, this, c1]
    · have := k 2 (by omega : 2 < 4); rw [Nat.zero_add, this, c2]
    · have := k 3 (by omega : 3 < 4); rw [Nat.zero_add, this, c3]
theorem OwnR.lt {t : TypeId} {w : World} {B : Nat} {v : Value} {ps : List Pf} (h : OwnR t w B v ps) : ∀ k, v.ownBlock = some k → B ≤ k ∧ k < w.heap.size := World.ownsRow.lt h
theorem OwnR.alloc {t : TypeId} {w : World} {B : Nat} {v : Value} {ps : List Pf} (h : OwnR t w B v ps) (o : Obj) : OwnR t (w.alloc o) B v ps := World.ownsRow.alloc h o
theorem OwnR.mono {t : TypeId} {w : World} {B B' : Nat} {v : Value} {ps : List Pf} (h : OwnR t w B v ps) (hb : B' ≤ B) : OwnR t w B' v ps := by
  refine ⟨h.1, ?_⟩
  rcases h.2 with h' | ⟨g, c, cur, h1, h2, h3⟩
  · exact Or.inl h'
  · exact Or.inr ⟨g, c, cur, h1, Nat.le_trans hb h2, h3⟩
theorem OwnR.later {t : TypeId} {w w' : World} {B : Nat} {v : Value} {ps : List Pf} (h : OwnR t w B v ps) (hb : Below w.heap.size w w') : OwnR t w' B v ps := by
  refine ⟨h.1, ?_⟩
  rcases h.2 with h' | ⟨g, c, cur, h1, h2, h3, h4⟩
  · exact Or.inl h'
  · refine Or.inr ⟨g, c, cur, h1, h2, ?_, h4⟩
    have hg : g < w.heap.size := by
      rcases Nat.lt_or_ge g w.heap.size with h' | h'
      · exact h'
      · rw [Array.getElem?_eq_none h'] at h3; cases h3
    exact (hb.block g hg).trans h3
theorem OwnR.caps {t : TypeId} {w : World} {B n c : Nat} {a : Option Addr} {ps : List Pf} (h : OwnR t w B (.slice a n c) ps) : n = ps.length ∧ ps.length ≤ c ∧ c ≤ 9223372036854775807 ∧ (a = none → c = 0) := by
  rcases h.2 with ⟨hv, hn⟩ | ⟨g, c', cur, hv, _, _, h1, h2, _⟩
  · simp at hv; obtain ⟨rfl, rfl, rfl⟩ := hv; exact ⟨hn.symm, by omega, by omega, fun _ => rfl⟩
  · simp at hv
    obtain ⟨rfl, rfl, rfl⟩ := hv
    exact ⟨rfl, h1, by unfold maxLen at h2; omega, fun h => by cases h⟩

/-- Rows of four cells: the type's facts. -/
def Four (P : Program) (t e : TypeId) : Prop := P.underlying t = some (.slice e) ∧ (P.info? e).map (fun i => (i.zero, i.size, i.bytes)) = some (some (.agg #[.bool false, .int .i64 0, .int .i64 0, .int .i64 0]), 4, 32)

end Go.Proofs.Ytngcbhbcocnbeaa
namespace Go.Proofs.Ytngcbhbcocnbeaa
open Go.RowKit

set_option maxHeartbeats 1000000 in
theorem toPrefix_any (s : Bool) (h l b : Int) (w : World) :
    Calls Try.prog 48 #[.agg #[.bool s, .int .i64 h, .int .i64 l, .int .i64 b]] w fun e w' => e = .returned (.agg #[.bool s, .int .i64 h, .int .i64 l, .int .i64 b]) ∧ Below w.heap.size w w' := by
  go_enter Try.func48, Try.ntmps48
  go_wp2_with fail
  refine (toAddr_any s h l _).mono ?_
  rintro e w1 ⟨rfl, hb1⟩
  have hz1 := hb1.size
  try simp at hz1
  have f10 : w.heap.size < w1.heap.size := by omega
  have f11 : w.heap.size + 1 < w1.heap.size := by omega
  have f12 : w.heap.size + 2 < w1.heap.size := by omega
  refine olds_k (w.heap.size + 3) hb1 ?_ ?_
  · first | omega | (simp; omega) | (simp; done)
  intro hc1 hf1
  go_wp2_with fail
  refine bodyPost_ret (v := .agg #[.bool s, .int .i64 h, .int .i64 l, .int .i64 b]) (by simp [results, Try.results48, go_sem, hc1]) rfl ⟨rfl, ?_⟩
  repeat (first | with_reducible exact Below.refl _ _ | (with_reducible refine Below.drew ?_) | (with_reducible refine Below.alloc ?_ ?_ _; rotate_left; (focus (first | omega | (simp; omega) | (simp; done)))) | (with_reducible refine Below.setCell ?_ ?_ _; rotate_left; (focus (first | omega | (simp; omega) | (simp; done)))) | (with_reducible refine Below.trans ?_ (hb1.mono ?_); rotate_left; (focus (first | omega | (simp; omega) | (simp; done)))))

end Go.Proofs.Ytngcbhbcocnbeaa
namespace Go.Proofs.Ytngcbhbcocnbeaa
open Go.RowKit

def Pf.zero : Pf := ⟨false, 0, 0, 0⟩

theorem flat_set : ∀ (ps : List Pf) (j : Nat) (q : Pf), j < ps.length → ((((flat ps).set (j * 4) (.bool q.s)).set (j * 4 + 1) (.int .i64 q.H.toInt)).set (j * 4 + 2) (.int .i64 q.L.toInt)).set (j * 4 + 3) (.int .i64 q.b) = flat (ps.set j q)
  | [], j, q, h => by simp at h
  | p :: t, 0, q, h => by simp [flat, Pf.cs]
  | p :: t, j + 1, q, h => by
      have ih := flat_set t j q (by simpa using h)
      have e : ∀ (i : Nat) (l : List Value) (v : Value), (p.cs ++ l).set ((j + 1) * 4 + i) v = p.cs ++ l.set (j * 4 + i) v := fun i l v => by
        rw [List.set_append_right _ _ (by simp [Pf.cs]; omega)]
        congr 2
        simp [Pf.cs]; omega
      have e0 := fun (l : List Value) (v : Value) => e 0 l v
      simp only [Nat.add_zero] at e0
      show ((((p.cs ++ flat t).set ((j + 1) * 4) (.bool q.s)).set ((j + 1) * 4 + 1) (.int .i64 q.H.toInt)).set ((j + 1) * 4 + 2) (.int .i64 q.L.toInt)).set ((j + 1) * 4 + 3) (.int .i64 q.b) = p.cs ++ flat (t.set j q)
      rw [e0, e 1, e 2, e 3, ih]

/-- One of a row is written. -/
theorem OwnR.put {t : TypeId} {w : World} {B g n cap : Nat} {ps : List Pf} (h : OwnR t w B (.slice (some ⟨g, 0, none⟩) n cap) ps) (hn : n = ps.length) (j : Nat) (hj : j < n) :
    (w.frozen? ⟨g, j * 4, none⟩ = false ∧ w.frozen? ⟨g, j * 4 + 1, none⟩ = false ∧ w.frozen? ⟨g, j * 4 + 2, none⟩ = false ∧ w.frozen? ⟨g, j * 4 + 3, none⟩ = false) ∧
    ∀ q : Pf, OwnR t ((((w.setCell ⟨g, j * 4, none⟩ (.bool q.s)).setCell ⟨g, j * 4 + 1, none⟩ (.int .i64 q.H.toInt)).setCell ⟨g, j * 4 + 2, none⟩ (.int .i64 q.L.toInt)).setCell ⟨g, j * 4 + 3, none⟩ (.int .i64 q.b)) B (.slice (some ⟨g, 0, none⟩) n cap) (ps.set j q) := by
  subst hn
  refine ⟨⟨World.ownsRow.frozenAt h _, World.ownsRow.frozenAt h _, World.ownsRow.frozenAt h _, World.ownsRow.frozenAt h _⟩, fun q => ?_⟩
  have h0 := (World.ownsRow.stored h (j * 4) (.bool q.s)).1
  have h1 := (World.ownsRow.stored h0 (j * 4 + 1) (.int .i64 q.H.toInt)).1
  have h2 := (World.ownsRow.stored h1 (j * 4 + 2) (.int .i64 q.L.toInt)).1
  have h3 := (World.ownsRow.stored h2 (j * 4 + 3) (.int .i64 q.b)).1
  rw [flat_set ps j q hj] at h3
  unfold OwnR
  rw [List.length_set]
  exact h3

end Go.Proofs.Ytngcbhbcocnbeaa
namespace Go.Proofs.Ytngcbhbcocnbeaa
open Go.RowKit

/-- A kind of things: its cells. -/
structure Kd (α : Type) where
  k : Nat
  cs : α → List Value
  len : ∀ x, (cs x).length = k
  one : ∀ x, ∀ u ∈ cs x, u.oneCell' = true

def gflat {α : Type} (K : Kd α) : List α → List Value
  | [] => []
  | p :: t => K.cs p ++ gflat K t
theorem gflat_len {α : Type} (K : Kd α) : ∀ ps : List α, (gflat K ps).length = ps.length * K.k
  | [] => by simp [gflat]
  | p :: t => by simp [gflat, gflat_len K t, K.len, Nat.add_mul]; omega
theorem gflat_at {α : Type} (K : Kd α) : ∀ (ps : List α) (j : Nat) (q : α), ps[j]? = some q → ∀ i, i < K.k → (gflat K ps)[j * K.k + i]? = (K.cs q)[i]?
  | [], j, q, h, i, hi => by simp at h
  | p :: t, 0, q, h, i, hi => by
      simp at h; subst h
      show (K.cs p ++ gflat K t)[0 * K.k + i]? = _
      rw [Nat.zero_mul, Nat.zero_add, List.getElem?_append_left (by rw [K.len]; exact hi)]
  | p :: t, j + 1, q, h, i, hi => by
      have := gflat_at K t j q (by simpa using h) i hi
      show (K.cs p ++ gflat K t)[(j + 1) * K.k + i]? = _
      rw [List.getElem?_append_right (by rw [K.len, Nat.add_mul]; omega), ← this]
      congr 1
      rw [K.len, Nat.add_mul]; omega

/-- What is read of a row. -/
def RowG {α : Type} (K : Kd α) (w : World) (a : Option Addr) (ps : List α) : Prop := ∀ j, j < ps.length → ∃ p o q, a = some ⟨p, o, none⟩ ∧ p < w.heap.size ∧ ps[j]? = some q ∧ ∀ i v, (K.cs q)[i]? = some v → w.cell? ⟨p, o + j * K.k + i, none⟩ = some v
/-- A row of one's own. -/
def OwnG {α : Type} (K : Kd α) (t : TypeId) (w : World) (B : Nat) (v : Value) (ps : List α) : Prop := w.ownsRow B t K.k v ps.length (gflat K ps)

theorem RowG.later {α : Type} {K : Kd α} {w w' : World} {a : Option Addr} {ps : List α} (h : RowG K w a ps) (hb : Below w.heap.size w w') : RowG K w' a ps := fun j hj => by
  obtain ⟨p, o, q, ha, hp, hq, c⟩ := h j hj
  exact ⟨p, o, q, ha, Nat.lt_of_lt_of_le hp hb.size, hq, fun i v hv => (hb.cell hp).trans (c i v hv)⟩
theorem RowG.nil {α : Type} (K : Kd α) (w : World) (a : Option Addr) : RowG K w a [] := fun j hj => absurd hj (Nat.not_lt_zero j)
theorem OwnG.row {α : Type} {K : Kd α} {t : TypeId} {w : World} {B n cap : Nat} {a : Option Addr} {ps : List α} (h : OwnG K t w B (.slice a n cap) ps) : RowG K w a ps := fun j hj => by
  rcases h.2 with ⟨hv, hn⟩ | ⟨g, c, cur, hv, _, hg, _⟩
  · omega
  · simp at hv
    obtain ⟨rfl, rfl, rfl⟩ := hv
    have hq : ps[j]? = some ps[j] := List.getElem?_eq_getElem hj
    refine ⟨g, 0, ps[j], rfl, ?_, hq, fun i v hv => ?_⟩
    · rcases Nat.lt_or_ge g w.heap.size with h' | h'
      · exact h'
      · rw [Array.getElem?_eq_none h'] at hg; cases hg
    · have hi : i < K.k := by
        rcases Nat.lt_or_ge i (K.cs ps[j]).length with h1 | h1
        · rw [K.len] at h1; exact h1
        · rw [List.getElem?_eq_none h1] at hv; cases hv
      have h2 : j * K.k + i < ps.length * K.k := by
        have : (j + 1) * K.k ≤ ps.length * K.k := Nat.mul_le_mul_right _ hj
        rw [Nat.add_mul] at this; omega
      have := World.ownsRow.cellAt h (j * K.k + i) h2
      rw [Nat.zero_add, this, gflat_at K ps j _ hq i hi, hv]
theorem OwnG.lt {α : Type} {K : Kd α} {t : TypeId} {w : World} {B : Nat} {v : Value} {ps : List α} (h : OwnG K t w B v ps) : ∀ k, v.ownBlock = some k → B ≤ k ∧ k < w.heap.size := World.ownsRow.lt h
theorem OwnG.alloc {α : Type} {K : Kd α} {t : TypeId} {w : World} {B : Nat} {v : Value} {ps : List α} (h : OwnG K t w B v ps) (o : Obj) : OwnG K t (w.alloc o) B v ps := World.ownsRow.alloc h o
theorem OwnG.mono {α : Type} {K : Kd α} {t : TypeId} {w : World} {B B' : Nat} {v : Value} {ps : List α} (h : OwnG K t w B v ps) (hb : B' ≤ B) : OwnG K t w B' v ps := by
  refine ⟨h.1, ?_⟩
  rcases h.2 with h' | ⟨g, c, cur, h1, h2, h3⟩
  · exact Or.inl h'
  · exact Or.inr ⟨g, c, cur, h1, Nat.le_trans hb h2, h3⟩
theorem OwnG.later {α : Type} {K : Kd α} {t : TypeId} {w w' : World} {B : Nat} {v : Value} {ps : List α} (h : OwnG K t w B v ps) (hb : Below w.heap.size w w') : OwnG K t w' B v ps := by
  refine ⟨h.1, ?_⟩
  rcases h.2 with h' | ⟨g, c, cur, h1, h2, h3, h4⟩
  · exact Or.inl h'
  · refine Or.inr ⟨g, c, cur, h1, h2, ?_, h4⟩
    have hg : g < w.heap.size := by
      rcases Nat.lt_or_ge g w.heap.size with h' | h'
      · exact h'
      · rw [Array.getElem?_eq_none h'] at h3; cases h3
    exact (hb.block g hg).trans h3
/-- A row of one's own stands where another block turns. -/
theorem OwnG.grown {α : Type} {K : Kd α} {t : TypeId} {w w' : World} {B : Nat} {v : Value} {ps : List α} {b : Option Nat} (h : OwnG K t w B v ps) (hg : w.grownBy w' b) (hn : ∀ k, v.ownBlock = some k → b ≠ some k) : OwnG K t w' B v ps := by
  refine ⟨h.1, ?_⟩
  rcases h.2 with h' | ⟨g, c, cur, h1, h2, h3, h4⟩
  · exact Or.inl h'
  · refine Or.inr ⟨g, c, cur, h1, h2, ?_, h4⟩
    have hgl : g < w.heap.size := by
      rcases Nat.lt_or_ge g w.heap.size with h' | h'
      · exact h'
      · rw [Array.getElem?_eq_none h'] at h3; cases h3
    have := hg.block g hgl (fun e => hn g (by rw [h1]; rfl) e.symm)
    exact this.trans h3
theorem OwnG.caps {α : Type} {K : Kd α} {t : TypeId} {w : World} {B n c : Nat} {a : Option Addr} {ps : List α} (h : OwnG K t w B (.slice a n c) ps) : n = ps.length ∧ ps.length ≤ c ∧ c ≤ 9223372036854775807 ∧ (a = none → c = 0) := by
  rcases h.2 with ⟨hv, hn⟩ | ⟨g, c', cur, hv, _, _, h1, h2, _⟩
  · simp at hv; obtain ⟨rfl, rfl, rfl⟩ := hv; exact ⟨hn.symm, by omega, by omega, fun _ => rfl⟩
  · simp at hv
    obtain ⟨rfl, rfl, rfl⟩ := hv
    exact ⟨rfl, h1, by unfold maxLen at h2; omega, fun h => by cases h⟩

/-- The type's facts of such rows. -/
def GTy {α : Type} (K : Kd α) (z : Value) (bytes : Nat) (P : Program) (t e : TypeId) : Prop := P.underlying t = some (.slice e) ∧ (P.info? e).map (fun i => (i.zero, i.size, i.bytes)) = some (some z, K.k, bytes) ∧ z.cells.size = K.k ∧ bytes ≤ 1000

/-- Cells written one behind the other. -/
def puts (w : World) (g off : Nat) : List Value → World
  | [] => w
  | v :: vs => puts (w.setCell ⟨g, off, none⟩ v) g (off + 1) vs
def sets (l : List Value) (off : Nat) : List Value → List Value
  | [] => l
  | v :: vs => sets (l.set off v) (off + 1) vs
theorem sets_right (a b : List Value) : ∀ (vs : List Value) (off : Nat), sets (a ++ b) (a.length + off) vs = a ++ sets b off vs
  | [], off => rfl
  | v :: vs, off => by
      show sets ((a ++ b).set (a.length + off) v) (a.length + off + 1) vs = a ++ sets (b.set off v) (off + 1) vs
      rw [List.set_append_right _ _ (by omega), Nat.add_sub_cancel_left, Nat.add_assoc]
      have := sets_right a (b.set off v) vs (off + 1)
      exact this
theorem sets_all : ∀ (vs l t : List Value), l.length = vs.length → sets (l ++ t) 0 vs = vs ++ t
  | [], l, t, h => by
      have : l = [] := List.length_eq_zero_iff.1 h
      subst this; rfl
  | v :: vs, [], t, h => by simp at h
  | v :: vs, x :: l, t, h => by
      show sets ((x :: (l ++ t)).set 0 v) (0 + 1) vs = v :: (vs ++ t)
      rw [List.set_cons_zero]
      have := sets_right [v] (l ++ t) vs 0
      simp only [List.length_singleton, Nat.add_zero] at this
      rw [Nat.zero_add]
      show sets ([v] ++ (l ++ t)) 1 vs = _
      rw [this, sets_all vs l t (by simpa using h)]
      rfl
theorem gflat_set {α : Type} (K : Kd α) : ∀ (ps : List α) (j : Nat) (q : α), j < ps.length → sets (gflat K ps) (j * K.k) (K.cs q) = gflat K (ps.set j q)
  | [], j, q, h => by simp at h
  | p :: t, 0, q, h => by
      rw [Nat.zero_mul]
      show sets (K.cs p ++ gflat K t) 0 (K.cs q) = K.cs q ++ gflat K t
      exact sets_all _ _ _ (by rw [K.len, K.len])
  | p :: t, j + 1, q, h => by
      have ih := gflat_set K t j q (by simpa using h)
      show sets (K.cs p ++ gflat K t) ((j + 1) * K.k) (K.cs q) = K.cs p ++ gflat K (t.set j q)
      have e : (j + 1) * K.k = (K.cs p).length + j * K.k := by rw [K.len, Nat.add_mul]; omega
      rw [e, sets_right, ih]
theorem puts_own {t : TypeId} {g n cap : Nat} {B k : Nat} : ∀ (vs : List Value) (w : World) (xs : List Value) (off : Nat), w.ownsRow B t k (.slice (some ⟨g, 0, none⟩) n cap) n xs → (puts w g off vs).ownsRow B t k (.slice (some ⟨g, 0, none⟩) n cap) n (sets xs off vs)
  | [], _, _, _, h => h
  | v :: vs, _, _, off, h => puts_own vs _ _ (off + 1) (World.ownsRow.stored h off v).1

/-- One of a row is written. -/
theorem OwnG.put {α : Type} {K : Kd α} {t : TypeId} {w : World} {B g n cap : Nat} {ps : List α} (h : OwnG K t w B (.slice (some ⟨g, 0, none⟩) n cap) ps) (hn : n = ps.length) (j : Nat) (hj : j < n) (q : α) :
    OwnG K t (puts w g (j * K.k) (K.cs q)) B (.slice (some ⟨g, 0, none⟩) n cap) (ps.set j q) := by
  subst hn
  have := puts_own (K.cs q) w _ (j * K.k) h
  rw [gflat_set K ps j q hj] at this
  unfold OwnG
  rw [List.length_set]
  exact this
theorem OwnG.frozen {α : Type} {K : Kd α} {t : TypeId} {w : World} {B g n cap : Nat} {ps : List α} (h : OwnG K t w B (.slice (some ⟨g, 0, none⟩) n cap) ps) (o : Nat) : w.frozen? ⟨g, o, none⟩ = false := by
  have hn := h.caps.1
  subst hn
  exact World.ownsRow.frozenAt h o
theorem grown_cellG (w : World) (g o : Nat) (v : Value) : w.grownBy (w.setCell ⟨g, o, none⟩ v) (some g) :=
  ⟨rfl, rfl, rfl, by simp, fun k _ hk => heap_setCell_other w ⟨g, o, none⟩ k v (fun e => hk (by simp [e]))⟩
/-- A new row of noughts. -/
theorem made_gen {α : Type} (K : Kd α) (z : α) (hk : 0 < K.k) (v : Value) (hv : v.cells.toList = K.cs z) (n : Nat) : (madeCells v.cells (n * K.k)).toList = gflat K (List.replicate n z) := by
  apply List.ext_getElem?
  intro j
  by_cases hj : j < n * K.k
  · have hm : j / K.k * K.k + j % K.k = j := by rw [Nat.mul_comm]; exact Nat.div_add_mod j K.k
    have hq : (List.replicate n z)[j / K.k]? = some z := by rw [List.getElem?_replicate, if_pos (Nat.div_lt_of_lt_mul (by rw [Nat.mul_comm]; exact hj))]
    have f := gflat_at K _ (j / K.k) _ hq (j % K.k) (Nat.mod_lt _ hk)
    rw [hm] at f
    rw [f, ← hv]
    have hs : v.cells.size = K.k := by rw [← Array.length_toList, hv, K.len]
    have e : (madeCells v.cells (n * K.k)).toList[j]? = some (v.cells[j % K.k]!) := by
      rw [Array.getElem?_toList]
      unfold madeCells
      rw [Array.getElem?_map, Array.getElem?_range, if_pos hj, hs]
      rfl
    rw [e]
    have hlt : j % K.k < v.cells.size := by rw [hs]; exact Nat.mod_lt _ hk
    rw [Array.getElem?_toList, Array.getElem?_eq_getElem hlt, getElem!_pos v.cells (j % K.k) hlt]
  · rw [List.getElem?_eq_none (by rw [Array.length_toList, size_madeCells]; omega), List.getElem?_eq_none (by rw [gflat_len, List.length_replicate]; omega)]
/-- One more of the row is copied. -/
theorem copy_stepG {α : Type} (z : α) (ps : List α) (k : Nat) (q : α) (hk : k < ps.length) (hq : ps[k]? = some q) : (ps.take k ++ List.replicate (ps.length - k) z).set k q = ps.take (k + 1) ++ List.replicate (ps.length - (k + 1)) z := by
  have e : ps.length - k = ps.length - (k + 1) + 1 := by omega
  rw [e, List.replicate_succ, List.set_append_right _ _ (by rw [List.length_take]; omega)]
  have e2 : k - (ps.take k).length = 0 := by rw [List.length_take]; omega
  rw [e2, List.set_cons_zero, List.take_add_one, hq]
  simp

/-- A row out of its single readings. -/
theorem rowsG_of {α : Type} {K : Kd α} {W : World} (a : Option Addr) : ∀ n : Nat, (∀ j, j < n → ∃ p o q, a = some ⟨p, o, none⟩ ∧ p < W.heap.size ∧ ∀ i v, (K.cs q)[i]? = some v → W.cell? ⟨p, o + j * K.k + i, none⟩ = some v) → ∃ ps : List α, ps.length = n ∧ RowG K W a ps
  | 0, _ => ⟨[], rfl, RowG.nil _ _ _⟩
  | n + 1, h => by
      obtain ⟨ps, hl, hb⟩ := rowsG_of a n (fun j hj => h j (by omega))
      obtain ⟨p, o, q, ha, hp, c⟩ := h n (by omega)
      refine ⟨ps ++ [q], by simp [hl], fun j hj => ?_⟩
      by_cases hjn : j < n
      · obtain ⟨p', o', z, ha', hp', hz, hc'⟩ := hb j (by omega)
        exact ⟨p', o', z, ha', hp', by rw [List.getElem?_append_left (by omega)]; exact hz, hc'⟩
      · have : j = n := by simp at hj; omega
        subst this
        exact ⟨p, o, q, ha, hp, by rw [List.getElem?_append_right (by omega), hl]; simp, c⟩

end Go.Proofs.Ytngcbhbcocnbeaa
namespace Go.Proofs.Ytngcbhbcocnbeaa
open Go.RowKit

set_option maxHeartbeats 1000000 in
theorem eqA_same (s : Bool) (h l : Int) (w : World) :
    Calls Try.prog 51 #[.agg #[.bool s, .int .i64 h, .int .i64 l], .agg #[.bool s, .int .i64 h, .int .i64 l]] w fun e w' => e = .returned (.bool true) ∧ Below w.heap.size w w' := by
  go_enter Try.func51, Try.ntmps51
  go_wp2
  go_ret
  refine ⟨rfl, ?_⟩
  repeat (first | with_reducible exact Below.refl _ _ | (with_reducible refine Below.drew ?_) | (with_reducible refine Below.alloc ?_ ?_ _; rotate_left; (focus (first | omega | (simp; omega) | (simp; done)))) | (with_reducible refine Below.setCell ?_ ?_ _; rotate_left; (focus (first | omega | (simp; omega) | (simp; done)))))

end Go.Proofs.Ytngcbhbcocnbeaa
namespace Go.Proofs.Ytngcbhbcocnbeaa
open Go.RowKit

set_option maxHeartbeats 1000000 in
theorem eqP_same (s : Bool) (h l b : Int) (w : World) :
    Calls Try.prog 50 #[.agg #[.bool s, .int .i64 h, .int .i64 l, .int .i64 b], .agg #[.bool s, .int .i64 h, .int .i64 l, .int .i64 b]] w fun e w' => e = .returned (.bool true) ∧ Below w.heap.size w w' := by
  go_enter Try.func50, Try.ntmps50
  go_wp2_with fail
  refine (eqA_same s h l _).mono ?_
  rintro e w1 ⟨rfl, hb1⟩
  have hz1 := hb1.size
  try simp at hz1
  have f10 : w.heap.size < w1.heap.size := by omega
  have f11 : w.heap.size + 1 < w1.heap.size := by omega
  refine olds_k (w.heap.size + 2) hb1 ?_ ?_
  · first | omega | (simp; omega) | (simp; done)
  intro hc1 hf1
  go_wp2_with fail
  go_ret
  refine ⟨rfl, ?_⟩
  repeat (first | with_reducible exact Below.refl _ _ | (with_reducible refine Below.drew ?_) | (with_reducible refine Below.alloc ?_ ?_ _; rotate_left; (focus (first | omega | (simp; omega) | (simp; done)))) | (with_reducible refine Below.setCell ?_ ?_ _; rotate_left; (focus (first | omega | (simp; omega) | (simp; done)))) | (with_reducible refine Below.trans ?_ (hb1.mono ?_); rotate_left; (focus (first | omega | (simp; omega) | (simp; done)))))

end Go.Proofs.Ytngcbhbcocnbeaa
namespace Go.Proofs.Ytngcbhbcocnbeaa
open Go.ChangeShapes Go.WideShapes Go.ChangeAt Go.RowKit Go.Joins Go.Deep

theorem wfP {x : Int} (h : (Lit.int .i64 x).wf = true) : (BitVec.ofInt 64 x).toInt = x := by
  have : -9223372036854775808 ≤ x ∧ x ≤ 9223372036854775807 := by simpa [Lit.wf, IntKind.min, IntKind.max, IntKind.signed, IntKind.bits] using h
  rw [BitVec.toInt_ofInt, Int.bmod_def]
  split <;> omega

/-- One prefix out of its four cells. -/
theorem pf_of {H : Type} {enc : TypeId × Value → H} {W : World} {fuel : Nat} {cs : List Value} {x : DataW H × List MemPlace} (hl : cs.length = 4)
    (h : DataW.trod enc Try.prog W 0 (fun _ => true) true fuel 86 cs = some x) : ∃ q : Pf, cs = q.cs := by
  match cs, hl with
  | [c0, c1, c2, c3], _ =>
    obtain ⟨z0, z1, n, hx, _, h0, h1⟩ := trod_struct2 Try.underlying86 h
    obtain ⟨y0, y1, y2, m, hy, _, j0, j1, j2⟩ := trod_struct3 Try.underlying84 h0
    have k0 : Try.prog.cellsOf 84 = 3 := by kernel_rfl
    have ki : Try.prog.cellsOf 3 = 1 := by kernel_rfl
    have kb : Try.prog.cellsOf 4 = 1 := by kernel_rfl
    simp [k0, ki, kb] at h1 j0 j1 j2
    obtain ⟨s, e0, _⟩ := DataW.trod_bool Try.underlying4 j0
    obtain ⟨a, e1, _, wa⟩ := DataW.trod_int Try.underlying3 j1
    obtain ⟨b, e2, _, wb⟩ := DataW.trod_int Try.underlying3 j2
    obtain ⟨c, e3, _, wc⟩ := DataW.trod_int Try.underlying3 h1
    simp at e0 e1 e2 e3
    subst e0 e1 e2 e3
    refine ⟨⟨s, BitVec.ofInt 64 a, BitVec.ofInt 64 b, c⟩, ?_⟩
    unfold Pf.cs
    rw [wfP wa, wfP wb]

end Go.Proofs.Ytngcbhbcocnbeaa
namespace Go.Proofs.Ytngcbhbcocnbeaa
open Go.ChangeShapes Go.WideShapes Go.ChangeAt Go.RowKit Go.Joins Go.Deep

structure Pl where
  p : Pf
  n : Int
def Pl.cs (q : Pl) : List Value := [.bool q.p.s, .int .i64 q.p.H.toInt, .int .i64 q.p.L.toInt, .int .i64 q.p.b, .int .i64 q.n]
def Pl.zero : Pl := ⟨Pf.zero, 0⟩
def KPl : Kd Pl := ⟨5, Pl.cs, fun _ => rfl, fun x u h => by
  simp [Pl.cs] at h
  rcases h with rfl | rfl | rfl | rfl | rfl <;> rfl⟩
theorem Try.tyPl : GTy KPl (.agg #[.bool false, .int .i64 0, .int .i64 0, .int .i64 0, .int .i64 0]) 40 Try.prog 36 58 := ⟨Try.underlying36, by kernel_rfl, rfl, by omega⟩

theorem rowPl {w : World} {a : Option Addr} {ps : List Pl} (h : RowG KPl w a ps) (j : Nat) (hj : j < ps.length) : ∃ p o q, a = some ⟨p, o, none⟩ ∧ p < w.heap.size ∧ ps[j]? = some q ∧
    w.cell? ⟨p, o + j * 5, none⟩ = some (.bool q.p.s) ∧ w.cell? ⟨p, o + j * 5 + 1, none⟩ = some (.int .i64 q.p.H.toInt) ∧ w.cell? ⟨p, o + j * 5 + 2, none⟩ = some (.int .i64 q.p.L.toInt) ∧ w.cell? ⟨p, o + j * 5 + 3, none⟩ = some (.int .i64 q.p.b) ∧ w.cell? ⟨p, o + j * 5 + 4, none⟩ = some (.int .i64 q.n) := by
  obtain ⟨p, o, q, ha, hp, hq, c⟩ := h j hj
  exact ⟨p, o, q, ha, hp, hq, c 0 _ rfl, c 1 _ rfl, c 2 _ rfl, c 3 _ rfl, c 4 _ rfl⟩
theorem rowPl0 {w : World} {g n cap B : Nat} {t : TypeId} {ps : List Pl} (h : OwnG KPl t w B (.slice (some ⟨g, 0, none⟩) n cap) ps) (j : Nat) (hj : j < ps.length) : ∃ q, g < w.heap.size ∧ ps[j]? = some q ∧
    w.cell? ⟨g, j * 5, none⟩ = some (.bool q.p.s) ∧ w.cell? ⟨g, j * 5 + 1, none⟩ = some (.int .i64 q.p.H.toInt) ∧ w.cell? ⟨g, j * 5 + 2, none⟩ = some (.int .i64 q.p.L.toInt) ∧ w.cell? ⟨g, j * 5 + 3, none⟩ = some (.int .i64 q.p.b) ∧ w.cell? ⟨g, j * 5 + 4, none⟩ = some (.int .i64 q.n) := by
  obtain ⟨p, o, q, ha, hp, hq, c0, c1, c2, c3, c4⟩ := rowPl h.row j hj
  simp only [Option.some.injEq, Addr.mk.injEq, and_true] at ha
  obtain ⟨rfl, rfl⟩ := ha
  rw [Nat.zero_add] at c0 c1 c2 c3 c4
  exact ⟨q, hp, hq, c0, c1, c2, c3, c4⟩
theorem putPl {t : TypeId} {w : World} {B g n cap : Nat} {ps : List Pl} (h : OwnG KPl t w B (.slice (some ⟨g, 0, none⟩) n cap) ps) (hn : n = ps.length) (j : Nat) (hj : j < n) (q : Pl) :
    OwnG KPl t (((((w.setCell ⟨g, j * 5, none⟩ (.bool q.p.s)).setCell ⟨g, j * 5 + 1, none⟩ (.int .i64 q.p.H.toInt)).setCell ⟨g, j * 5 + 2, none⟩ (.int .i64 q.p.L.toInt)).setCell ⟨g, j * 5 + 3, none⟩ (.int .i64 q.p.b)).setCell ⟨g, j * 5 + 4, none⟩ (.int .i64 q.n)) B (.slice (some ⟨g, 0, none⟩) n cap) (ps.set j q) := h.put hn j hj q
theorem frzPl {t : TypeId} {w : World} {B g n cap : Nat} {ps : List Pl} (h : OwnG KPl t w B (.slice (some ⟨g, 0, none⟩) n cap) ps) (j : Nat) :
    w.frozen? ⟨g, j * 5, none⟩ = false ∧ w.frozen? ⟨g, j * 5 + 1, none⟩ = false ∧ w.frozen? ⟨g, j * 5 + 2, none⟩ = false ∧ w.frozen? ⟨g, j * 5 + 3, none⟩ = false ∧ w.frozen? ⟨g, j * 5 + 4, none⟩ = false := ⟨h.frozen _, h.frozen _, h.frozen _, h.frozen _, h.frozen _⟩

set_option maxHeartbeats 1000000 in
theorem toPool_any (q : Pl) (w : World) :
    Calls Try.prog 40 #[.agg #[.bool q.p.s, .int .i64 q.p.H.toInt, .int .i64 q.p.L.toInt, .int .i64 q.p.b, .int .i64 q.n]] w fun e w' => e = .returned (.agg #[.bool q.p.s, .int .i64 q.p.H.toInt, .int .i64 q.p.L.toInt, .int .i64 q.p.b, .int .i64 q.n]) ∧ Below w.heap.size w w' := by
  go_enter Try.func40, Try.ntmps40
  go_wp2_with fail
  refine (toPrefix_any q.p.s q.p.H.toInt q.p.L.toInt q.p.b _).mono ?_
  rintro e w1 ⟨rfl, hb1⟩
  have hz1 := hb1.size
  try simp at hz1
  have f10 : w.heap.size < w1.heap.size := by omega
  have f11 : w.heap.size + 1 < w1.heap.size := by omega
  have f12 : w.heap.size + 2 < w1.heap.size := by omega
  refine olds_k (w.heap.size + 3) hb1 ?_ ?_
  · first | omega | (simp; omega) | (simp; done)
  intro hc1 hf1
  go_wp2_with fail
  refine bodyPost_ret (v := .agg #[.bool q.p.s, .int .i64 q.p.H.toInt, .int .i64 q.p.L.toInt, .int .i64 q.p.b, .int .i64 q.n]) (by simp [results, Try.results40, go_sem, hc1]) rfl ⟨rfl, ?_⟩
  repeat (first | with_reducible exact Below.refl _ _ | (with_reducible refine Below.drew ?_) | (with_reducible refine Below.alloc ?_ ?_ _; rotate_left; (focus (first | omega | (simp; omega) | (simp; done)))) | (with_reducible refine Below.setCell ?_ ?_ _; rotate_left; (focus (first | omega | (simp; omega) | (simp; done)))) | (with_reducible refine Below.trans ?_ (hb1.mono ?_); rotate_left; (focus (first | omega | (simp; omega) | (simp; done)))))

set_option maxHeartbeats 1000000 in
theorem eqPool_same (q : Pl) (w : World) :
    Calls Try.prog 44 #[.agg #[.bool q.p.s, .int .i64 q.p.H.toInt, .int .i64 q.p.L.toInt, .int .i64 q.p.b, .int .i64 q.n], .agg #[.bool q.p.s, .int .i64 q.p.H.toInt, .int .i64 q.p.L.toInt, .int .i64 q.p.b, .int .i64 q.n]] w fun e w' => e = .returned (.bool true) ∧ Below w.heap.size w w' := by
  go_enter Try.func44, Try.ntmps44
  go_wp2_with fail
  refine (eqP_same q.p.s q.p.H.toInt q.p.L.toInt q.p.b _).mono ?_
  rintro e w1 ⟨rfl, hb1⟩
  have hz1 := hb1.size
  try simp at hz1
  have f10 : w.heap.size < w1.heap.size := by omega
  have f11 : w.heap.size + 1 < w1.heap.size := by omega
  refine olds_k (w.heap.size + 2) hb1 ?_ ?_
  · first | omega | (simp; omega) | (simp; done)
  intro hc1 hf1
  go_wp2_with fail
  go_ret
  refine ⟨rfl, ?_⟩
  repeat (first | with_reducible exact Below.refl _ _ | (with_reducible refine Below.drew ?_) | (with_reducible refine Below.alloc ?_ ?_ _; rotate_left; (focus (first | omega | (simp; omega) | (simp; done)))) | (with_reducible refine Below.setCell ?_ ?_ _; rotate_left; (focus (first | omega | (simp; omega) | (simp; done)))) | (with_reducible refine Below.trans ?_ (hb1.mono ?_); rotate_left; (focus (first | omega | (simp; omega) | (simp; done)))))

set_option maxHeartbeats 1000000 in
theorem toPoolS_any (a : Option Addr) (n cap : Nat) (ps : List Pl) (w : World) (hn : n = ps.length) (hB : RowG KPl w a ps) (hl : n ≤ 1048576) :
    Calls Try.prog 25 #[.slice a n cap] w fun e w' => ∃ g, e = .returned (.slice (some ⟨g, 0, none⟩) n n) ∧ OwnG KPl 58 w' w.heap.size (.slice (some ⟨g, 0, none⟩) n n) ps ∧ Below w.heap.size w w' := by
  obtain ⟨i0, hi, hz0, hz1, hz2⟩ := info_parts Try.tyPl.2.1
  have HB := hidP hB
  have HN := hidP hn
  clear hB hn
  go_enter Try.func25, Try.ntmps25
  go_wp2_with (refine wpList_make_full _ rfl (.tmp 6) (.tmp 6) 36 rfl w.heap.size 58 i0 _ 5 Try.tyPl.1 hi hz0 hz1 .i64 .i64 n n n rfl rfl rfl rfl (by rw [hz2]; omega) (by unfold maxLen; omega) (Nat.le_refl _) ?_; intro w1 hown hgrow)
  have HO : Hid (OwnG KPl 58 w1 w.heap.size (.slice (some ⟨w.heap.size, 0, none⟩) n n) (ps.take 0 ++ List.replicate (ps.length - 0) Pl.zero)) := by
    have hm := made_gen KPl Pl.zero (by show 0 < 5; omega) (.agg #[.bool false, .int .i64 0, .int .i64 0, .int .i64 0, .int .i64 0]) rfl n
    rw [show n * 5 = n * KPl.k from rfl, hm] at hown
    refine hidP ?_
    unfold OwnG
    rw [Nat.sub_zero, List.take_zero, List.nil_append, List.length_replicate, ← HN.out]; exact hown
  have HW : Hid (Below w.heap.size w w1) := (Below.refl _ w).grown hgrow (Nat.le_refl _) (fun k hk => by cases hk)
  clear hown hgrow
  go_loopw [4] (fun t4 wr => ∃ k : Nat, k ≤ n ∧ t4 = .int .i64 k ∧ OwnG KPl 58 wr w.heap.size (.slice (some ⟨w.heap.size, 0, none⟩) n n) (ps.take k ++ List.replicate (ps.length - k) Pl.zero) ∧ Below w.heap.size w wr) (fun t4 _ => n - (intOf t4).toNat)
  case atStart => exact ⟨0, Nat.zero_le _, rfl, HO.out, HW.out⟩
  case round =>
    obtain ⟨k, hk, rfl, hown, hbel⟩ := hrel
    by_cases hlt : k < n
    · obtain ⟨p, o, q, rfl, hp, hq, c0, c1, c2, c3, c4⟩ := rowPl HB.out k (by rw [← HN.out]; exact hlt)
      have d0 := (hbel.cell hp).trans c0
      have d1 := (hbel.cell hp).trans c1
      have d2 := (hbel.cell hp).trans c2
      have d3 := (hbel.cell hp).trans c3
      have d4 := (hbel.cell hp).trans c4
      have HOw := hidP hown
      have HBel := hidP hbel
      have HQ := hidP hq
      clear hown hbel c0 c1 c2 c3 c4 hq HO HW
      go_wp2_with fail
      refine (toPool_any q _).mono ?_
      rintro e w2 ⟨rfl, hb2⟩
      have ho2 := HOw.out.later hb2
      have hlen : n = (ps.take k ++ List.replicate (ps.length - k) Pl.zero).length := by rw [List.length_append, List.length_take, List.length_replicate, HN.out]; have := HN.out; omega
      obtain ⟨f0, f1, f2, f3, f4⟩ := frzPl ho2 k
      have hput' := putPl ho2 hlen k hlt q
      rw [copy_stepG Pl.zero ps k q (by rw [← HN.out]; exact hlt) HQ.out] at hput'
      have HP := hidP hput'
      obtain ⟨q', hp', _, e0, e1, e2, e3, e4⟩ := rowPl0 ho2 k (by rw [← hlen]; exact hlt)
      have HBel2 := hidP (HBel.out.trans (hb2.mono HBel.out.size))
      clear hput' ho2 hb2 HBel HOw d0 d1 d2 d3 d4 hlen
      go_wp2_with fail
      go_roundw
      case rel => exact ⟨k + 1, by omega, by go_num, HP.out, ((((HBel2.out.setCell (Nat.le_refl _) _).setCell (Nat.le_refl _) _).setCell (Nat.le_refl _) _).setCell (Nat.le_refl _) _).setCell (Nat.le_refl _) _⟩
      case measure => simp [intOf]; omega
    · have hkn : k = n := by omega
      subst hkn
      have HO2 : Hid (OwnG KPl 58 wr w.heap.size (.slice (some ⟨w.heap.size, 0, none⟩) k k) ps) := by
        have e := HN.out
        rw [e, List.take_length, Nat.sub_self, List.replicate_zero, List.append_nil] at hown
        rw [← e] at hown
        exact hidP hown
      have HBel : Hid (Below w.heap.size w wr) := hbel
      clear hown hbel HO HW
      go_wp2
      go_ret
      exact ⟨_, rfl, HO2.out, HBel.out⟩

set_option maxHeartbeats 1000000 in
theorem eqPoolS_same (a b : Option Addr) (n c d : Nat) (ps : List Pl) (w : World) (hn : n = ps.length) (ha : RowG KPl w a ps) (hb : RowG KPl w b ps) (hl : n ≤ 9000000000) :
    Calls Try.prog 33 #[.slice a n c, .slice b n d] w fun e w' => e = .returned (.bool true) ∧ Below w.heap.size w w' := by
  have HA := hidP ha
  have HB := hidP hb
  have HN := hidP hn
  clear ha hb hn
  go_enter Try.func33, Try.ntmps33
  go_wp2
  go_loopw [5] (fun t5 wr => ∃ k : Nat, k ≤ n ∧ t5 = .int .i64 k ∧ Below w.heap.size w wr) (fun t5 _ => n - (intOf t5).toNat)
  case atStart => exact ⟨0, Nat.zero_le _, rfl, Below.refl _ _⟩
  case round =>
    obtain ⟨k, hk, rfl, hbel⟩ := hrel
    have HW := hidP hbel
    by_cases hlt : k < n
    · obtain ⟨p, o, q, rfl, hp, hq, c0, c1, c2, c3, c4⟩ := rowPl HA.out k (by rw [← HN.out]; exact hlt)
      obtain ⟨p', o', q', rfl, hp', hq', d0, d1, d2, d3, d4⟩ := rowPl HB.out k (by rw [← HN.out]; exact hlt)
      rw [hq] at hq'
      cases hq'
      have c0' := (hbel.cell hp).trans c0
      have c1' := (hbel.cell hp).trans c1
      have c2' := (hbel.cell hp).trans c2
      have c3' := (hbel.cell hp).trans c3
      have c4' := (hbel.cell hp).trans c4
      have d0' := (hbel.cell hp').trans d0
      have d1' := (hbel.cell hp').trans d1
      have d2' := (hbel.cell hp').trans d2
      have d3' := (hbel.cell hp').trans d3
      have d4' := (hbel.cell hp').trans d4
      clear c0 c1 c2 c3 c4 d0 d1 d2 d3 d4 hq hbel
      go_wp2_with fail
      go_region_with (first | (go_at_call 44; refine (eqPool_same q _).mono ?_; rintro e w2 ⟨rfl, hb2⟩))
      all_goals
        have HW2 := hidP (HW.out.drew.trans (hb2.mono HW.out.drew.size))
        clear hb2
        go_wp2
        go_roundw
        case rel => exact ⟨k + 1, by omega, by go_num, HW2.out⟩
        case measure => simp [intOf]; omega
    · have hkn : k = n := by omega
      subst hkn
      clear hbel
      go_wp2
      go_ret
      exact ⟨rfl, HW.out⟩

set_option maxHeartbeats 400000 in
theorem szPoolS_any (a : Option Addr) (n cap : Nat) (l : Int) (hl : (n : Int) ≤ l) (hl' : l ≤ 1048576) (w : World) :
    Calls Try.prog 21 #[.slice a n cap, .int .i64 l] w fun e w' => e = .returned (.int .i64 (l - n)) ∧ w' = w := by
  have d1 : decide (l - (n : Int) < 0) = false := decide_eq_false (by omega)
  go_enter Try.func21, Try.ntmps21
  go_wp2
  go_ret
  exact ⟨rfl, rfl⟩
set_option maxHeartbeats 400000 in
theorem szPoolS_big (a : Option Addr) (n cap : Nat) (l : Int) (hl : l < (n : Int)) (h0 : 0 ≤ l) (h9 : n ≤ 9223372036854775807) (w : World) :
    Calls Try.prog 21 #[.slice a n cap, .int .i64 l] w fun e w' => e = .returned (.int .i64 (-1)) ∧ w' = w := by
  have d1 : decide (l - (n : Int) < 0) = true := decide_eq_true (by omega)
  go_enter Try.func21, Try.ntmps21
  go_wp2
  go_ret
  exact ⟨rfl, rfl⟩

theorem Try.cellsPl : Try.prog.cellsOf 96 = 5 := by kernel_rfl
/-- One out of its five cells. -/
theorem ofPl {H : Type} {enc : TypeId × Value → H} {W : World} {fuel : Nat} {cs : List Value} {x : DataW H × List MemPlace} (hl : cs.length = 5)
    (h : DataW.trod enc Try.prog W 0 (fun _ => true) true fuel 96 cs = some x) : ∃ q : Pl, cs = q.cs := by
  match cs, hl with
  | [c0, c1, c2, c3, c4], _ =>
    obtain ⟨z0, z1, n, hx, _, h0, h1⟩ := trod_struct2 Try.underlying96 h
    have k0 : Try.prog.cellsOf 86 = 4 := by kernel_rfl
    have kl : Try.prog.cellsOf 3 = 1 := by kernel_rfl
    simp [k0, kl] at h0 h1
    obtain ⟨p, hp⟩ := pf_of rfl h0
    obtain ⟨y, e1, _, wy⟩ := DataW.trod_int Try.underlying3 h1
    simp at e1
    subst e1
    have hp' : [c0, c1, c2, c3] = [.bool p.s, .int .i64 p.H.toInt, .int .i64 p.L.toInt, .int .i64 p.b] := hp
    simp only [List.cons.injEq, and_true] at hp'
    obtain ⟨rfl, rfl, rfl, rfl⟩ := hp'
    exact ⟨⟨p, y⟩, rfl⟩

set_option maxRecDepth 100000 in
/-- The things out of the reading of a row of them. -/
theorem openPl {H : Type} {enc : TypeId × Value → H} {W : World} {a : Option Addr} {len cap : Nat} {d : DataW H} {p : List MemPlace}
    (h : DataW.Trod enc Try.prog W 0 (fun _ => true) true 22 (.slice a len cap) d p) : ∃ ps : List Pl, ps.length = len ∧ len ≤ 9223372036854775807 ∧ RowG KPl W a ps := by
  obtain ⟨fuel, hf⟩ := h
  rcases open_slice Try.underlying22 hf with ⟨hcs, _⟩ | ⟨a', len', cap', m, n, D, Plc, hcs, _, hl, hmx, hm, _, hV⟩
  · simp [Value.cells] at hcs
    obtain ⟨rfl, rfl, rfl⟩ := hcs
    exact ⟨[], rfl, by omega, RowG.nil _ _ _⟩
  · simp [Value.cells] at hcs
    obtain ⟨rfl, rfl, rfl⟩ := hcs
    suffices h9 : ∃ ps : List Pl, ps.length = len ∧ RowG KPl W (some a') ps by
      obtain ⟨ps, h1, h2⟩ := h9
      exact ⟨ps, h1, by unfold maxLen at hmx; omega, h2⟩
    refine rowsG_of _ _ fun j hj => ?_
    simp at hm
    obtain ⟨cs', h1, h2⟩ := hV j (by omega)
    rw [Try.cellsPl] at h1
    obtain ⟨_, hlen, hcell⟩ := World.cells?_some h1
    obtain ⟨q, rfl⟩ := ofPl hlen h2
    obtain ⟨p', o', sp⟩ := a'
    cases sp with
    | some r =>
      exfalso
      obtain ⟨cs0, g1, g2⟩ := hV 0 (by omega)
      rw [Try.cellsPl] at g1
      obtain ⟨_, glen, gcell⟩ := World.cells?_some g1
      obtain ⟨q0, rfl⟩ := ofPl glen g2
      have h0 := gcell 0 (by omega)
      rw [Nat.zero_mul, show Addr.add (Addr.add ⟨p', o', some r⟩ 0) 0 = ⟨p', o', some r⟩ from rfl] at h0
      unfold World.cell? at h0
      split at h0
      · simp [Pl.cs] at h0
      · cases h0
    | none =>
      have ea : ∀ i k : Nat, Addr.add (Addr.add ⟨p', o', none⟩ i) k = ⟨p', o' + i + k, none⟩ := fun i k => by
        have ea1 : ∀ (o k : Nat), Addr.add ⟨p', o, none⟩ k = ⟨p', o + k, none⟩ := fun o k => by unfold Addr.add; split <;> simp_all
        rw [ea1, ea1]
      have hall : ∀ i v, (KPl.cs q)[i]? = some v → W.cell? ⟨p', o' + j * KPl.k + i, none⟩ = some v := fun i v hv => by
        have hi : i < 5 := by
          rcases Nat.lt_or_ge i (KPl.cs q).length with h1 | h1
          · exact h1
          · rw [List.getElem?_eq_none h1] at hv; cases hv
        have e0 := hcell i hi
        rw [ea] at e0
        exact e0.trans hv
      exact ⟨p', o', q, rfl, World.block_lt_of_cell? W _ (hall 0 _ rfl), hall⟩

end Go.Proofs.Ytngcbhbcocnbeaa
namespace Go.Proofs.Ytngcbhbcocnbeaa
open Go.ChangeShapes Go.WideShapes Go.ChangeAt Go.RowKit Go.Joins Go.Deep

structure Bk where
  p : Pf
  t : ByteArray
def Bk.cs (q : Bk) : List Value := [.bool q.p.s, .int .i64 q.p.H.toInt, .int .i64 q.p.L.toInt, .int .i64 q.p.b, .string q.t]
def Bk.zero : Bk := ⟨Pf.zero, ⟨#[]⟩⟩
def KBk : Kd Bk := ⟨5, Bk.cs, fun _ => rfl, fun x u h => by
  simp [Bk.cs] at h
  rcases h with rfl | rfl | rfl | rfl | rfl <;> rfl⟩
theorem Try.tyBk : GTy KBk (.agg #[.bool false, .int .i64 0, .int .i64 0, .int .i64 0, .string ⟨#[]⟩]) 48 Try.prog 37 60 := ⟨Try.underlying37, by kernel_rfl, rfl, by omega⟩

theorem rowBk {w : World} {a : Option Addr} {ps : List Bk} (h : RowG KBk w a ps) (j : Nat) (hj : j < ps.length) : ∃ p o q, a = some ⟨p, o, none⟩ ∧ p < w.heap.size ∧ ps[j]? = some q ∧
    w.cell? ⟨p, o + j * 5, none⟩ = some (.bool q.p.s) ∧ w.cell? ⟨p, o + j * 5 + 1, none⟩ = some (.int .i64 q.p.H.toInt) ∧ w.cell? ⟨p, o + j * 5 + 2, none⟩ = some (.int .i64 q.p.L.toInt) ∧ w.cell? ⟨p, o + j * 5 + 3, none⟩ = some (.int .i64 q.p.b) ∧ w.cell? ⟨p, o + j * 5 + 4, none⟩ = some (.string q.t) := by
  obtain ⟨p, o, q, ha, hp, hq, c⟩ := h j hj
  exact ⟨p, o, q, ha, hp, hq, c 0 _ rfl, c 1 _ rfl, c 2 _ rfl, c 3 _ rfl, c 4 _ rfl⟩
theorem rowBk0 {w : World} {g n cap B : Nat} {t : TypeId} {ps : List Bk} (h : OwnG KBk t w B (.slice (some ⟨g, 0, none⟩) n cap) ps) (j : Nat) (hj : j < ps.length) : ∃ q, g < w.heap.size ∧ ps[j]? = some q ∧
    w.cell? ⟨g, j * 5, none⟩ = some (.bool q.p.s) ∧ w.cell? ⟨g, j * 5 + 1, none⟩ = some (.int .i64 q.p.H.toInt) ∧ w.cell? ⟨g, j * 5 + 2, none⟩ = some (.int .i64 q.p.L.toInt) ∧ w.cell? ⟨g, j * 5 + 3, none⟩ = some (.int .i64 q.p.b) ∧ w.cell? ⟨g, j * 5 + 4, none⟩ = some (.string q.t) := by
  obtain ⟨p, o, q, ha, hp, hq, c0, c1, c2, c3, c4⟩ := rowBk h.row j hj
  simp only [Option.some.injEq, Addr.mk.injEq, and_true] at ha
  obtain ⟨rfl, rfl⟩ := ha
  rw [Nat.zero_add] at c0 c1 c2 c3 c4
  exact ⟨q, hp, hq, c0, c1, c2, c3, c4⟩
theorem putBk {t : TypeId} {w : World} {B g n cap : Nat} {ps : List Bk} (h : OwnG KBk t w B (.slice (some ⟨g, 0, none⟩) n cap) ps) (hn : n = ps.length) (j : Nat) (hj : j < n) (q : Bk) :
    OwnG KBk t (((((w.setCell ⟨g, j * 5, none⟩ (.bool q.p.s)).setCell ⟨g, j * 5 + 1, none⟩ (.int .i64 q.p.H.toInt)).setCell ⟨g, j * 5 + 2, none⟩ (.int .i64 q.p.L.toInt)).setCell ⟨g, j * 5 + 3, none⟩ (.int .i64 q.p.b)).setCell ⟨g, j * 5 + 4, none⟩ (.string q.t)) B (.slice (some ⟨g, 0, none⟩) n cap) (ps.set j q) := h.put hn j hj q
theorem frzBk {t : TypeId} {w : World} {B g n cap : Nat} {ps : List Bk} (h : OwnG KBk t w B (.slice (some ⟨g, 0, none⟩) n cap) ps) (j : Nat) :
    w.frozen? ⟨g, j * 5, none⟩ = false ∧ w.frozen? ⟨g, j * 5 + 1, none⟩ = false ∧ w.frozen? ⟨g, j * 5 + 2, none⟩ = false ∧ w.frozen? ⟨g, j * 5 + 3, none⟩ = false ∧ w.frozen? ⟨g, j * 5 + 4, none⟩ = false := ⟨h.frozen _, h.frozen _, h.frozen _, h.frozen _, h.frozen _⟩

set_option maxHeartbeats 1000000 in
theorem toBlock_any (q : Bk) (w : World) :
    Calls Try.prog 41 #[.agg #[.bool q.p.s, .int .i64 q.p.H.toInt, .int .i64 q.p.L.toInt, .int .i64 q.p.b, .string q.t]] w fun e w' => e = .returned (.agg #[.bool q.p.s, .int .i64 q.p.H.toInt, .int .i64 q.p.L.toInt, .int .i64 q.p.b, .string q.t]) ∧ Below w.heap.size w w' := by
  go_enter Try.func41, Try.ntmps41
  go_wp2_with fail
  refine (toPrefix_any q.p.s q.p.H.toInt q.p.L.toInt q.p.b _).mono ?_
  rintro e w1 ⟨rfl, hb1⟩
  have hz1 := hb1.size
  try simp at hz1
  have f10 : w.heap.size < w1.heap.size := by omega
  have f11 : w.heap.size + 1 < w1.heap.size := by omega
  have f12 : w.heap.size + 2 < w1.heap.size := by omega
  refine olds_k (w.heap.size + 3) hb1 ?_ ?_
  · first | omega | (simp; omega) | (simp; done)
  intro hc1 hf1
  go_wp2_with fail
  refine bodyPost_ret (v := .agg #[.bool q.p.s, .int .i64 q.p.H.toInt, .int .i64 q.p.L.toInt, .int .i64 q.p.b, .string q.t]) (by simp [results, Try.results41, go_sem, hc1]) rfl ⟨rfl, ?_⟩
  repeat (first | with_reducible exact Below.refl _ _ | (with_reducible refine Below.drew ?_) | (with_reducible refine Below.alloc ?_ ?_ _; rotate_left; (focus (first | omega | (simp; omega) | (simp; done)))) | (with_reducible refine Below.setCell ?_ ?_ _; rotate_left; (focus (first | omega | (simp; omega) | (simp; done)))) | (with_reducible refine Below.trans ?_ (hb1.mono ?_); rotate_left; (focus (first | omega | (simp; omega) | (simp; done)))))

set_option maxHeartbeats 1000000 in
theorem eqBlock_same (q : Bk) (w : World) :
    Calls Try.prog 45 #[.agg #[.bool q.p.s, .int .i64 q.p.H.toInt, .int .i64 q.p.L.toInt, .int .i64 q.p.b, .string q.t], .agg #[.bool q.p.s, .int .i64 q.p.H.toInt, .int .i64 q.p.L.toInt, .int .i64 q.p.b, .string q.t]] w fun e w' => e = .returned (.bool true) ∧ Below w.heap.size w w' := by
  go_enter Try.func45, Try.ntmps45
  go_wp2_with fail
  refine (eqP_same q.p.s q.p.H.toInt q.p.L.toInt q.p.b _).mono ?_
  rintro e w1 ⟨rfl, hb1⟩
  have hz1 := hb1.size
  try simp at hz1
  have f10 : w.heap.size < w1.heap.size := by omega
  have f11 : w.heap.size + 1 < w1.heap.size := by omega
  refine olds_k (w.heap.size + 2) hb1 ?_ ?_
  · first | omega | (simp; omega) | (simp; done)
  intro hc1 hf1
  go_wp2_with fail
  go_ret
  refine ⟨rfl, ?_⟩
  repeat (first | with_reducible exact Below.refl _ _ | (with_reducible refine Below.drew ?_) | (with_reducible refine Below.alloc ?_ ?_ _; rotate_left; (focus (first | omega | (simp; omega) | (simp; done)))) | (with_reducible refine Below.setCell ?_ ?_ _; rotate_left; (focus (first | omega | (simp; omega) | (simp; done)))) | (with_reducible refine Below.trans ?_ (hb1.mono ?_); rotate_left; (focus (first | omega | (simp; omega) | (simp; done)))))

set_option maxHeartbeats 1000000 in
theorem toBlockS_any (a : Option Addr) (n cap : Nat) (ps : List Bk) (w : World) (hn : n = ps.length) (hB : RowG KBk w a ps) (hl : n ≤ 1048576) :
    Calls Try.prog 26 #[.slice a n cap] w fun e w' => ∃ g, e = .returned (.slice (some ⟨g, 0, none⟩) n n) ∧ OwnG KBk 60 w' w.heap.size (.slice (some ⟨g, 0, none⟩) n n) ps ∧ Below w.heap.size w w' := by
  obtain ⟨i0, hi, hz0, hz1, hz2⟩ := info_parts Try.tyBk.2.1
  have HB := hidP hB
  have HN := hidP hn
  clear hB hn
  go_enter Try.func26, Try.ntmps26
  go_wp2_with (refine wpList_make_full _ rfl (.tmp 6) (.tmp 6) 37 rfl w.heap.size 60 i0 _ 5 Try.tyBk.1 hi hz0 hz1 .i64 .i64 n n n rfl rfl rfl rfl (by rw [hz2]; omega) (by unfold maxLen; omega) (Nat.le_refl _) ?_; intro w1 hown hgrow)
  have HO : Hid (OwnG KBk 60 w1 w.heap.size (.slice (some ⟨w.heap.size, 0, none⟩) n n) (ps.take 0 ++ List.replicate (ps.length - 0) Bk.zero)) := by
    have hm := made_gen KBk Bk.zero (by show 0 < 5; omega) (.agg #[.bool false, .int .i64 0, .int .i64 0, .int .i64 0, .string ⟨#[]⟩]) rfl n
    rw [show n * 5 = n * KBk.k from rfl, hm] at hown
    refine hidP ?_
    unfold OwnG
    rw [Nat.sub_zero, List.take_zero, List.nil_append, List.length_replicate, ← HN.out]; exact hown
  have HW : Hid (Below w.heap.size w w1) := (Below.refl _ w).grown hgrow (Nat.le_refl _) (fun k hk => by cases hk)
  clear hown hgrow
  go_loopw [4] (fun t4 wr => ∃ k : Nat, k ≤ n ∧ t4 = .int .i64 k ∧ OwnG KBk 60 wr w.heap.size (.slice (some ⟨w.heap.size, 0, none⟩) n n) (ps.take k ++ List.replicate (ps.length - k) Bk.zero) ∧ Below w.heap.size w wr) (fun t4 _ => n - (intOf t4).toNat)
  case atStart => exact ⟨0, Nat.zero_le _, rfl, HO.out, HW.out⟩
  case round =>
    obtain ⟨k, hk, rfl, hown, hbel⟩ := hrel
    by_cases hlt : k < n
    · obtain ⟨p, o, q, rfl, hp, hq, c0, c1, c2, c3, c4⟩ := rowBk HB.out k (by rw [← HN.out]; exact hlt)
      have d0 := (hbel.cell hp).trans c0
      have d1 := (hbel.cell hp).trans c1
      have d2 := (hbel.cell hp).trans c2
      have d3 := (hbel.cell hp).trans c3
      have d4 := (hbel.cell hp).trans c4
      have HOw := hidP hown
      have HBel := hidP hbel
      have HQ := hidP hq
      clear hown hbel c0 c1 c2 c3 c4 hq HO HW
      go_wp2_with fail
      refine (toBlock_any q _).mono ?_
      rintro e w2 ⟨rfl, hb2⟩
      have ho2 := HOw.out.later hb2
      have hlen : n = (ps.take k ++ List.replicate (ps.length - k) Bk.zero).length := by rw [List.length_append, List.length_take, List.length_replicate, HN.out]; have := HN.out; omega
      obtain ⟨f0, f1, f2, f3, f4⟩ := frzBk ho2 k
      have hput' := putBk ho2 hlen k hlt q
      rw [copy_stepG Bk.zero ps k q (by rw [← HN.out]; exact hlt) HQ.out] at hput'
      have HP := hidP hput'
      obtain ⟨q', hp', _, e0, e1, e2, e3, e4⟩ := rowBk0 ho2 k (by rw [← hlen]; exact hlt)
      have HBel2 := hidP (HBel.out.trans (hb2.mono HBel.out.size))
      clear hput' ho2 hb2 HBel HOw d0 d1 d2 d3 d4 hlen
      go_wp2_with fail
      go_roundw
      case rel => exact ⟨k + 1, by omega, by go_num, HP.out, ((((HBel2.out.setCell (Nat.le_refl _) _).setCell (Nat.le_refl _) _).setCell (Nat.le_refl _) _).setCell (Nat.le_refl _) _).setCell (Nat.le_refl _) _⟩
      case measure => simp [intOf]; omega
    · have hkn : k = n := by omega
      subst hkn
      have HO2 : Hid (OwnG KBk 60 wr w.heap.size (.slice (some ⟨w.heap.size, 0, none⟩) k k) ps) := by
        have e := HN.out
        rw [e, List.take_length, Nat.sub_self, List.replicate_zero, List.append_nil] at hown
        rw [← e] at hown
        exact hidP hown
      have HBel : Hid (Below w.heap.size w wr) := hbel
      clear hown hbel HO HW
      go_wp2
      go_ret
      exact ⟨_, rfl, HO2.out, HBel.out⟩

set_option maxHeartbeats 1000000 in
theorem eqBlockS_same (a b : Option Addr) (n c d : Nat) (ps : List Bk) (w : World) (hn : n = ps.length) (ha : RowG KBk w a ps) (hb : RowG KBk w b ps) (hl : n ≤ 9000000000) :
    Calls Try.prog 34 #[.slice a n c, .slice b n d] w fun e w' => e = .returned (.bool true) ∧ Below w.heap.size w w' := by
  have HA := hidP ha
  have HB := hidP hb
  have HN := hidP hn
  clear ha hb hn
  go_enter Try.func34, Try.ntmps34
  go_wp2
  go_loopw [5] (fun t5 wr => ∃ k : Nat, k ≤ n ∧ t5 = .int .i64 k ∧ Below w.heap.size w wr) (fun t5 _ => n - (intOf t5).toNat)
  case atStart => exact ⟨0, Nat.zero_le _, rfl, Below.refl _ _⟩
  case round =>
    obtain ⟨k, hk, rfl, hbel⟩ := hrel
    have HW := hidP hbel
    by_cases hlt : k < n
    · obtain ⟨p, o, q, rfl, hp, hq, c0, c1, c2, c3, c4⟩ := rowBk HA.out k (by rw [← HN.out]; exact hlt)
      obtain ⟨p', o', q', rfl, hp', hq', d0, d1, d2, d3, d4⟩ := rowBk HB.out k (by rw [← HN.out]; exact hlt)
      rw [hq] at hq'
      cases hq'
      have c0' := (hbel.cell hp).trans c0
      have c1' := (hbel.cell hp).trans c1
      have c2' := (hbel.cell hp).trans c2
      have c3' := (hbel.cell hp).trans c3
      have c4' := (hbel.cell hp).trans c4
      have d0' := (hbel.cell hp').trans d0
      have d1' := (hbel.cell hp').trans d1
      have d2' := (hbel.cell hp').trans d2
      have d3' := (hbel.cell hp').trans d3
      have d4' := (hbel.cell hp').trans d4
      clear c0 c1 c2 c3 c4 d0 d1 d2 d3 d4 hq hbel
      go_wp2_with fail
      go_region_with (first | (go_at_call 45; refine (eqBlock_same q _).mono ?_; rintro e w2 ⟨rfl, hb2⟩))
      all_goals
        have HW2 := hidP (HW.out.drew.trans (hb2.mono HW.out.drew.size))
        clear hb2
        go_wp2
        go_roundw
        case rel => exact ⟨k + 1, by omega, by go_num, HW2.out⟩
        case measure => simp [intOf]; omega
    · have hkn : k = n := by omega
      subst hkn
      clear hbel
      go_wp2
      go_ret
      exact ⟨rfl, HW.out⟩

theorem Try.cellsBk : Try.prog.cellsOf 88 = 5 := by kernel_rfl

end Go.Proofs.Ytngcbhbcocnbeaa
namespace Go.Proofs.Ytngcbhbcocnbeaa
open Go.ChangeShapes Go.WideShapes Go.ChangeAt Go.RowKit Go.Joins

/-- A number of the kind int lies in its bounds. -/
theorem wf_bdC {x : Int} (h : (Lit.int .i64 x).wf = true) : -9223372036854775808 ≤ x ∧ x ≤ 9223372036854775807 := by
  simpa [Lit.wf, IntKind.min, IntKind.max, IntKind.signed, IntKind.bits] using h

end Go.Proofs.Ytngcbhbcocnbeaa
namespace Go.Proofs.Ytngcbhbcocnbeaa
open Go.RowKit

def ml (n : Nat) : BitVec 64 := if 64 ≤ n then BitVec.allOnes 64 else BitVec.ofNat 64 (2 ^ n - 1)
def mh (n : Nat) : BitVec 64 := ml (n - 64)
def hg (b : Int) : BitVec 64 := if b ≤ 0 then 0 else if 64 ≤ b then BitVec.allOnes 64 else BitVec.allOnes 64 <<< (64 - b).toNat

/-- cleared and filled -/
def cH (n : Nat) (H : BitVec 64) := H &&& ~~~ mh n
def cL (n : Nat) (L : BitVec 64) := L &&& ~~~ ml n

end Go.Proofs.Ytngcbhbcocnbeaa
namespace Go.Proofs.Ytngcbhbcocnbeaa
open Go.RowKit

def wd (s : Bool) : Nat := if s then 128 else 32

end Go.Proofs.Ytngcbhbcocnbeaa
namespace Go.Proofs.Ytngcbhbcocnbeaa
open Go.RowKit

/-- A span: where it begins, and how many bits are free. -/
structure Sp where
  s : Bool
  H : BitVec 64
  L : BitVec 64
  n : Nat

def Sp.ok (x : Sp) : Prop := okB x.s x.H.toInt x.L.toInt = true ∧ x.n ≤ wd x.s ∧ cH x.n x.H = x.H ∧ cL x.n x.L = x.L

end Go.Proofs.Ytngcbhbcocnbeaa
namespace Go.Proofs.Ytngcbhbcocnbeaa
open Go.RowKit

theorem ret_b {a b : Bool} (h : a = b) : Ending.returned (.bool a) = .returned (.bool b) := by rw [h]

end Go.Proofs.Ytngcbhbcocnbeaa
namespace Go.Proofs.Ytngcbhbcocnbeaa
open Go.RowKit

theorem alloc_below (w : World) (o : Obj) : Below w.heap.size w (w.alloc o) := (Below.refl _ _).alloc (Nat.le_refl _) o
theorem alloc_lt (w : World) (o : Obj) : w.heap.size < (w.alloc o).heap.size := by simp

end Go.Proofs.Ytngcbhbcocnbeaa
namespace Go.Proofs.Ytngcbhbcocnbeaa
open Go.RowKit

theorem ret_i {k : IntKind} {a b : Int} (h : a = b) : Ending.returned (.int k a) = .returned (.int k b) := by rw [h]

end Go.Proofs.Ytngcbhbcocnbeaa
namespace Go.Proofs.Ytngcbhbcocnbeaa
open Go.RowKit

theorem box2 {u v : Value} (w : World) (t : TypeId) : (w.alloc (.cells #[u, v] t)).cell? ⟨w.heap.size, 0, none⟩ = some u ∧ (w.alloc (.cells #[u, v] t)).cell? ⟨w.heap.size, 1, none⟩ = some v := by
  exact ⟨by simp [go_sem], by simp [go_sem]⟩

end Go.Proofs.Ytngcbhbcocnbeaa
namespace Go.Proofs.Ytngcbhbcocnbeaa
open Go.ChangeShapes Go.WideShapes Go.ChangeAt Go.RowKit Go.Joins Go.Deep

theorem rowsG_of2 {α : Type} {K : Kd α} {E : α → Prop} {W : World} (a : Option Addr) : ∀ n : Nat, (∀ j, j < n → ∃ p o q, a = some ⟨p, o, none⟩ ∧ p < W.heap.size ∧ (∀ i v, (K.cs q)[i]? = some v → W.cell? ⟨p, o + j * K.k + i, none⟩ = some v) ∧ E q) → ∃ ps : List α, ps.length = n ∧ RowG K W a ps ∧ ∀ q ∈ ps, E q
  | 0, _ => ⟨[], rfl, RowG.nil _ _ _, fun _ h => by cases h⟩
  | n + 1, h => by
      obtain ⟨ps, hl, hb, he⟩ := rowsG_of2 a n (fun j hj => h j (by omega))
      obtain ⟨p, o, q, ha, hp, c, hq⟩ := h n (by omega)
      refine ⟨ps ++ [q], by simp [hl], fun j hj => ?_, fun x hx => ?_⟩
      · by_cases hjn : j < n
        · obtain ⟨p', o', z, ha', hp', hz, hc'⟩ := hb j (by omega)
          exact ⟨p', o', z, ha', hp', by rw [List.getElem?_append_left (by omega)]; exact hz, hc'⟩
        · have : j = n := by simp at hj; omega
          subst this
          exact ⟨p, o, q, ha, hp, by rw [List.getElem?_append_right (by omega), hl]; simp, c⟩
      · rcases List.mem_append.1 hx with hx | hx
        · exact he x hx
        · rw [List.mem_singleton] at hx; subst hx; exact hq

/-- One out of its five cells. -/
theorem ofBk2 {H : Type} {enc : TypeId × Value → H} {W : World} {fuel : Nat} {cs : List Value} {x : DataW H × List MemPlace} (hl : cs.length = 5)
    (h : DataW.trod enc Try.prog W 0 (fun _ => true) true fuel 88 cs = some x) : ∃ q : Bk, cs = q.cs ∧ q.t.size ≤ 9223372036854775807 := by
  match cs, hl with
  | [c0, c1, c2, c3, c4], _ =>
    obtain ⟨z0, z1, n, hx, _, h0, h1⟩ := trod_struct2 Try.underlying88 h
    have k0 : Try.prog.cellsOf 86 = 4 := by kernel_rfl
    have kl : Try.prog.cellsOf 9 = 1 := by kernel_rfl
    simp [k0, kl] at h0 h1
    obtain ⟨p, hp⟩ := pf_of rfl h0
    obtain ⟨y, e1, _, wy⟩ := DataW.trod_string Try.underlying9 h1
    simp at e1
    subst e1
    have hp' : [c0, c1, c2, c3] = [.bool p.s, .int .i64 p.H.toInt, .int .i64 p.L.toInt, .int .i64 p.b] := hp
    simp only [List.cons.injEq, and_true] at hp'
    obtain ⟨rfl, rfl, rfl, rfl⟩ := hp'
    exact ⟨⟨p, y⟩, rfl, by unfold maxLen at wy; show y.size ≤ _; omega⟩

set_option maxRecDepth 100000 in
/-- The things out of the reading of a row of them. -/
theorem openBk2 {H : Type} {enc : TypeId × Value → H} {W : World} {a : Option Addr} {len cap : Nat} {d : DataW H} {p : List MemPlace}
    (h : DataW.Trod enc Try.prog W 0 (fun _ => true) true 23 (.slice a len cap) d p) : ∃ ps : List Bk, ps.length = len ∧ len ≤ 9223372036854775807 ∧ RowG KBk W a ps ∧ ∀ q ∈ ps, q.t.size ≤ 9223372036854775807 := by
  obtain ⟨fuel, hf⟩ := h
  rcases open_slice Try.underlying23 hf with ⟨hcs, _⟩ | ⟨a', len', cap', m, n, D, Plc, hcs, _, hl, hmx, hm, _, hV⟩
  · simp [Value.cells] at hcs
    obtain ⟨rfl, rfl, rfl⟩ := hcs
    exact ⟨[], rfl, by omega, RowG.nil _ _ _, fun _ h => by cases h⟩
  · simp [Value.cells] at hcs
    obtain ⟨rfl, rfl, rfl⟩ := hcs
    suffices h9 : ∃ ps : List Bk, ps.length = len ∧ RowG KBk W (some a') ps ∧ ∀ q ∈ ps, q.t.size ≤ 9223372036854775807 by
      obtain ⟨ps, h1, h2⟩ := h9
      exact ⟨ps, h1, by unfold maxLen at hmx; omega, h2⟩
    refine rowsG_of2 (E := fun q : Bk => q.t.size ≤ 9223372036854775807) _ _ fun j hj => ?_
    simp at hm
    obtain ⟨cs', h1, h2⟩ := hV j (by omega)
    rw [Try.cellsBk] at h1
    obtain ⟨_, hlen, hcell⟩ := World.cells?_some h1
    obtain ⟨q, rfl, hq9⟩ := ofBk2 hlen h2
    obtain ⟨p', o', sp⟩ := a'
    cases sp with
    | some r =>
      exfalso
      obtain ⟨cs0, g1, g2⟩ := hV 0 (by omega)
      rw [Try.cellsBk] at g1
      obtain ⟨_, glen, gcell⟩ := World.cells?_some g1
      obtain ⟨q0, rfl, _⟩ := ofBk2 glen g2
      have h0 := gcell 0 (by omega)
      rw [Nat.zero_mul, show Addr.add (Addr.add ⟨p', o', some r⟩ 0) 0 = ⟨p', o', some r⟩ from rfl] at h0
      unfold World.cell? at h0
      split at h0
      · simp [Bk.cs] at h0
      · cases h0
    | none =>
      have ea : ∀ i k : Nat, Addr.add (Addr.add ⟨p', o', none⟩ i) k = ⟨p', o' + i + k, none⟩ := fun i k => by
        have ea1 : ∀ (o k : Nat), Addr.add ⟨p', o, none⟩ k = ⟨p', o + k, none⟩ := fun o k => by unfold Addr.add; split <;> simp_all
        rw [ea1, ea1]
      have hall : ∀ i v, (KBk.cs q)[i]? = some v → W.cell? ⟨p', o' + j * KBk.k + i, none⟩ = some v := fun i v hv => by
        have hi : i < 5 := by
          rcases Nat.lt_or_ge i (KBk.cs q).length with h1 | h1
          · exact h1
          · rw [List.getElem?_eq_none h1] at hv; cases hv
        have e0 := hcell i hi
        rw [ea] at e0
        exact e0.trans hv
      exact ⟨p', o', q, rfl, World.block_lt_of_cell? W _ (hall 0 _ rfl), hall, hq9⟩

/-- How many bytes the owners have. -/
def sumT : List Bk → Nat
  | [] => 0
  | q :: t => q.t.size + sumT t
theorem sumT_app : ∀ xs ys : List Bk, sumT (xs ++ ys) = sumT xs + sumT ys
  | [], ys => by simp [sumT]
  | q :: t, ys => by simp [sumT, sumT_app t ys]; omega
theorem sumT_next {bs : List Bk} {k : Nat} {q : Bk} (h : bs[k]? = some q) : sumT (bs.take (k + 1)) = sumT (bs.take k) + q.t.size := by
  rw [List.take_add_one, h, sumT_app]; simp [sumT]
theorem sumT_le (bs : List Bk) (k : Nat) : sumT (bs.take k) ≤ sumT bs := by
  conv => rhs; rw [← List.take_append_drop k bs, sumT_app]
  omega

def szO (l : Int) (n : Nat) : Int := if l - (n : Int) < 0 then -1 else l - (n : Int)
def szB (n s : Nat) (l : Int) : Int := if (n : Int) + (s : Int) ≤ l then l - n - s else -1
def szT (t : Int) : Int := if t ≤ 1048576 then 1048576 - t else -1
theorem szO_yes {l : Int} {n : Nat} (h : l - (n : Int) < 0) : szO l n = -1 := by unfold szO; rw [if_pos h]
theorem szO_no {l : Int} {n : Nat} (h : ¬ l - (n : Int) < 0) : szO l n = l - (n : Int) := by unfold szO; rw [if_neg h]
theorem szB_yes {n s : Nat} {l : Int} (h : (n : Int) + (s : Int) ≤ l) : szB n s l = l - n - s := by unfold szB; rw [if_pos h]
theorem szB_no {n s : Nat} {l : Int} (h : ¬ (n : Int) + (s : Int) ≤ l) : szB n s l = -1 := by unfold szB; rw [if_neg h]
theorem szT_yes {t : Int} (h : t ≤ 1048576) : szT t = 1048576 - t := by unfold szT; rw [if_pos h]
theorem szT_no {t : Int} (h : ¬ t ≤ 1048576) : szT t = -1 := by unfold szT; rw [if_neg h]

set_option maxHeartbeats 400000 in
theorem szBlock_any (q : Bk) (l : Int) (h0 : 0 ≤ l) (h1 : l ≤ 1048576) (h9 : q.t.size ≤ 9223372036854775807) (w : World) :
    Calls Try.prog 37 #[.agg #[.bool q.p.s, .int .i64 q.p.H.toInt, .int .i64 q.p.L.toInt, .int .i64 q.p.b, .string q.t], .int .i64 l] w fun e w' => e = .returned (.int .i64 (szO l q.t.size)) ∧ Below w.heap.size w w' := by
  by_cases hd : l - (q.t.size : Int) < 0
  · rw [szO_yes hd]
    go_enter Try.func37, Try.ntmps37
    go_wp2
    go_ret
    exact ⟨rfl, (Below.refl _ _).alloc (Nat.le_refl _) _⟩
  · rw [szO_no hd]
    have hd2 : decide (l - (q.t.size : Int) < 0) = false := decide_eq_false hd
    go_enter Try.func37, Try.ntmps37
    go_wp2
    go_ret
    exact ⟨rfl, (Below.refl _ _).alloc (Nat.le_refl _) _⟩

set_option maxHeartbeats 1000000 in
theorem szBlockS_any (a : Option Addr) (n cap : Nat) (bs : List Bk) (l : Int) (h0 : 0 ≤ l) (h1 : l ≤ 1048576) (w : World) (hn : n = bs.length) (hB : RowG KBk w a bs) (h9 : n ≤ 9223372036854775807) (hst : ∀ q ∈ bs, q.t.size ≤ 9223372036854775807) :
    Calls Try.prog 22 #[.slice a n cap, .int .i64 l] w fun e w' => e = .returned (.int .i64 (szB n (sumT bs) l)) ∧ Below w.heap.size w w' := by
  have HB := hidP hB
  have HN := hidP hn
  have HST := hidP hst
  clear hB hn hst
  by_cases hnl : l < (n : Int)
  · rw [szB_no (by omega)]
    have d1 : decide (l - (n : Int) < 0) = true := decide_eq_true (by omega)
    go_enter Try.func22, Try.ntmps22
    go_wp2
    go_ret
    exact ⟨rfl, Below.refl _ _⟩
  · have d1 : decide (l - (n : Int) < 0) = false := decide_eq_false (by omega)
    have d2 : ¬ (l - (n : Int) < 0) := by omega
    go_enter Try.func22, Try.ntmps22
    go_wp2_with fail
    go_loopw [1, 5] (fun t1 t5 wr => ∃ (k : Nat) (z : Int), k ≤ n ∧ t5 = .int .i64 k ∧ t1 = .int .i64 z ∧ z = l - n - sumT (bs.take k) ∧ 0 ≤ z ∧ Below w.heap.size w wr) (fun _ t5 _ => n - (intOf t5).toNat)
    case atStart => exact ⟨0, l - n, Nat.zero_le _, rfl, rfl, by simp [sumT], by omega, Below.refl _ _⟩
    case round =>
      obtain ⟨k, z, hk, rfl, rfl, hz, hz0, hbel⟩ := hrel
      by_cases hlt : k < n
      · obtain ⟨p, o, q, rfl, hp, hq, c0, c1, c2, c3, c4⟩ := rowBk HB.out k (by rw [← HN.out]; exact hlt)
        have d0 := (hbel.cell hp).trans c0
        have d1 := (hbel.cell hp).trans c1
        have d2 := (hbel.cell hp).trans c2
        have d3 := (hbel.cell hp).trans c3
        have d4 := (hbel.cell hp).trans c4
        have HBel := hidP hbel
        have HNx := hidP (sumT_next hq)
        have HLe := hidP (sumT_le bs (k + 1))
        have hz1 : z ≤ 1048576 := by omega
        have HZ := hidP hz
        have HS := hidP (szBlock_any q z hz0 hz1 (HST.out q (List.mem_of_getElem? hq)))
        clear c0 c1 c2 c3 c4 hq hbel hz
        by_cases hd : z - (q.t.size : Int) < 0
        · rw [szO_yes hd] at HS
          have HF : Hid (¬ ((n : Int) + (sumT bs : Int) ≤ l)) := hidP (by have := HZ.out; have := HNx.out; have := HLe.out; omega)
          go_wp2_with fail
          refine (HS.out _).mono ?_
          rintro e w2 ⟨rfl, hb2⟩
          have HB2 := hidP (HBel.out.trans (hb2.mono HBel.out.size))
          clear hb2 HBel d0 d1 d2 d3 d4
          go_wp2_with fail
          go_ret
          exact ⟨ret_i (szB_no (by have := HF.out; omega)).symm, HB2.out⟩
        · rw [szO_no hd] at HS
          have hd2 : decide (z - (q.t.size : Int) < 0) = false := decide_eq_false hd
          go_wp2_with fail
          refine (HS.out _).mono ?_
          rintro e w2 ⟨rfl, hb2⟩
          have HB2 := hidP (HBel.out.trans (hb2.mono HBel.out.size))
          clear hb2 HBel d0 d1 d2 d3 d4
          go_wp2_with fail
          go_roundw
          case rel => exact ⟨k + 1, z - (q.t.size : Int), by omega, by go_num, rfl, by have := HZ.out; have := HNx.out; omega, by omega, HB2.out⟩
          case measure => simp [intOf]; omega
      · have hkn : k = n := by omega
        have HF : Hid ((n : Int) + (sumT bs : Int) ≤ l ∧ z = l - n - sumT bs) := by
          rw [List.take_of_length_le (by have := HN.out; omega)] at hz
          exact hidP ⟨by omega, hz⟩
        have HBel := hidP hbel
        clear hbel hz
        go_wp2_with fail
        go_ret
        exact ⟨ret_i (by rw [szB_yes HF.out.1, ← HF.out.2]), HBel.out⟩

/-- How much of a law's room a plan takes. -/
def totP (ps : List Pl) (bs : List Bk) : Int := ps.length + (bs.length + sumT bs)

set_option maxHeartbeats 1000000 in
theorem szPlan_any (ap : Option Addr) (np cp : Nat) (ab : Option Addr) (nb cb : Nat) (ps : List Pl) (bs : List Bk) (w : World) (hnp : np = ps.length) (hnb : nb = bs.length) (hK : RowG KBk w ab bs) (h9 : np ≤ 9223372036854775807) (h9' : nb ≤ 9223372036854775807) (hst : ∀ q ∈ bs, q.t.size ≤ 9223372036854775807) :
    Calls Try.prog 9 #[.agg #[.slice ap np cp, .slice ab nb cb], .int .i64 1048576] w fun e w' => e = .returned (.int .i64 (szT (totP ps bs))) ∧ Below w.heap.size w w' := by
  unfold totP
  rw [← hnp, ← hnb]
  by_cases hl : (np : Int) ≤ 1048576
  · have HP := hidP (szPoolS_any ap np cp 1048576 hl (Int.le_refl _))
    have HBk := hidP (fun W h => szBlockS_any ab nb cb bs (1048576 - np) (by omega) (by omega) W hnb (hK.later h) h9' hst)
    have hz0 : ¬ (1048576 - (np : Int) < 0) := by omega
    have hz1 : decide (1048576 - (np : Int) < 0) = false := decide_eq_false hz0
    clear hK hnp hnb hst
    by_cases ht : (nb : Int) + (sumT bs : Int) ≤ 1048576 - np
    · rw [szB_yes ht] at HBk
      rw [szT_yes (by omega)]
      have hz2 : decide (1048576 - (np : Int) - (nb : Int) - (sumT bs : Int) < 0) = false := decide_eq_false (by omega)
      generalize he : (1048576 - (np : Int) - (nb : Int) - (sumT bs : Int)) = z at *
      have hz3 : ¬ z < 0 := by omega
      have HE := hidP he
      clear he
      go_enter Try.func9, Try.ntmps9
      go_wp2_with fail
      obtain ⟨u0, u1⟩ := box2 (u := .slice ap np cp) (v := .slice ab nb cb) w 25
      have uB := alloc_below w (.cells #[.slice ap np cp, .slice ab nb cb] 25)
      have uL := alloc_lt w (.cells #[.slice ap np cp, .slice ab nb cb] 25)
      have uS : (w.alloc (.cells #[.slice ap np cp, .slice ab nb cb] 25)).heap.size = w.heap.size + 1 := by simp
      generalize w.alloc (.cells #[.slice ap np cp, .slice ab nb cb] 25) = W1 at *
      have HU := hidP uB
      refine (HP.out _).mono ?_
      rintro e w1 ⟨rfl, rfl⟩
      clear uB uS
      go_wp2_with fail
      refine (HBk.out _ HU.out).mono ?_
      rintro e w2 ⟨rfl, hb2⟩
      have HB2 := hidP hb2
      clear hb2
      go_wp2_with fail
      go_ret
      exact ⟨ret_i (by have := HE.out; omega), HU.out.trans (HB2.out.mono HU.out.size)⟩
    · rw [szB_no ht] at HBk
      rw [szT_no (by omega)]
      go_enter Try.func9, Try.ntmps9
      go_wp2_with fail
      obtain ⟨u0, u1⟩ := box2 (u := .slice ap np cp) (v := .slice ab nb cb) w 25
      have uB := alloc_below w (.cells #[.slice ap np cp, .slice ab nb cb] 25)
      have uL := alloc_lt w (.cells #[.slice ap np cp, .slice ab nb cb] 25)
      have uS : (w.alloc (.cells #[.slice ap np cp, .slice ab nb cb] 25)).heap.size = w.heap.size + 1 := by simp
      generalize w.alloc (.cells #[.slice ap np cp, .slice ab nb cb] 25) = W1 at *
      have HU := hidP uB
      refine (HP.out _).mono ?_
      rintro e w1 ⟨rfl, rfl⟩
      clear uB uS
      go_wp2_with fail
      refine (HBk.out _ HU.out).mono ?_
      rintro e w2 ⟨rfl, hb2⟩
      have HB2 := hidP hb2
      clear hb2
      go_wp2_with fail
      go_ret
      exact ⟨rfl, HU.out.trans (HB2.out.mono HU.out.size)⟩
  · have HP := hidP (szPoolS_big ap np cp 1048576 (by omega) (by omega) h9)
    rw [szT_no (by omega)]
    clear hK hnp hnb hst
    go_enter Try.func9, Try.ntmps9
    go_wp2_with fail
    refine (HP.out _).mono ?_
    rintro e w1 ⟨rfl, rfl⟩
    go_wp2_with fail
    go_ret
    exact ⟨rfl, (Below.refl _ _).alloc (Nat.le_refl _) _⟩

set_option maxHeartbeats 1000000 in
theorem toPlan_any (ap : Option Addr) (np cp : Nat) (ab : Option Addr) (nb cb : Nat) (ps : List Pl) (bs : List Bk) (w : World) (hnp : np = ps.length) (hnb : nb = bs.length) (hP : RowG KPl w ap ps) (hK : RowG KBk w ab bs) (hl : np ≤ 1048576) (hl' : nb ≤ 1048576) :
    Calls Try.prog 12 #[.agg #[.slice ap np cp, .slice ab nb cb]] w fun e w' => ∃ g h, e = .returned (.agg #[.slice (some ⟨g, 0, none⟩) np np, .slice (some ⟨h, 0, none⟩) nb nb]) ∧ OwnG KPl 58 w' w.heap.size (.slice (some ⟨g, 0, none⟩) np np) ps ∧ OwnG KBk 60 w' w.heap.size (.slice (some ⟨h, 0, none⟩) nb nb) bs ∧ g ≠ h ∧ Below w.heap.size w w' := by
  have HTP := hidP (fun W h => toPoolS_any ap np cp ps W hnp (hP.later h) hl)
  have HTB := hidP (fun W h => toBlockS_any ab nb cb bs W hnb (hK.later h) hl')
  clear hP hK hnp hnb
  go_enter Try.func12, Try.ntmps12
  go_wp2_with fail
  refine (HTP.out _ ?_).mono ?_
  · repeat (first | with_reducible exact Below.refl _ _ | (with_reducible refine Below.drew ?_) | (with_reducible refine Below.alloc ?_ ?_ _; rotate_left; (focus (first | omega | (simp; omega) | (simp; done)))) | (with_reducible refine Below.setCell ?_ ?_ _; rotate_left; (focus (first | omega | (simp; omega) | (simp; done)))))
  rintro e w1 ⟨g, rfl, og, hb1⟩
  have hz1 := hb1.size
  try simp at hz1
  have hgl := OwnG.lt og g rfl
  try simp at hgl
  have f10 : w.heap.size < w1.heap.size := by omega
  have f11 : w.heap.size + 1 < w1.heap.size := by omega
  have f12 : w.heap.size + 2 < w1.heap.size := by omega
  refine olds_k (w.heap.size + 3) hb1 ?_ ?_
  · first | omega | (simp; omega) | (simp; done)
  intro hc1 hf1
  have OG := hidP og
  clear og
  go_wp2_with fail
  refine (HTB.out _ ?_).mono ?_
  · repeat (first | with_reducible exact Below.refl _ _ | (with_reducible refine Below.drew ?_) | (with_reducible refine Below.alloc ?_ ?_ _; rotate_left; (focus (first | omega | (simp; omega) | (simp; done)))) | (with_reducible refine Below.setCell ?_ ?_ _; rotate_left; (focus (first | omega | (simp; omega) | (simp; done)))) | (with_reducible refine Below.trans ?_ (hb1.mono ?_); rotate_left; (focus (first | omega | (simp; omega) | (simp; done)))))
  rintro e w2 ⟨h, rfl, oh, hb2⟩
  have hz2 := hb2.size
  try simp at hz2
  have hhl := OwnG.lt oh h rfl
  try simp at hhl
  have f20 : w.heap.size < w2.heap.size := by omega
  have f21 : w.heap.size + 1 < w2.heap.size := by omega
  have f22 : w.heap.size + 2 < w2.heap.size := by omega
  refine olds_k (w1.heap.size) hb2 ?_ ?_
  · first | omega | (simp; omega) | (simp; done)
  intro hc2 hf2
  have OH := hidP oh
  clear oh
  have OG2 := hidP ((OwnG.grown OG.out (grown_cellG w1 (w.heap.size + 2) 0 (.slice (some ⟨g, 0, none⟩) np np)) (fun k hk => by simp [Value.ownBlock] at hk; subst hk; intro hh; simp at hh; omega)).later hb2)
  have hgh : g ≠ h := by omega
  have q0 : w2.cell? ⟨w.heap.size + 1, 0, none⟩ = some (.slice none 0 0) := by rw [hc2 _ _ f11]; simp [go_sem, hc1]
  have q1 : w2.cell? ⟨w.heap.size + 1, 1, none⟩ = some (.slice none 0 0) := by rw [hc2 _ _ f11]; simp [go_sem, hc1]
  go_wp2_with fail
  refine bodyPost_ret (v := .agg #[.slice (some ⟨g, 0, none⟩) np np, .slice (some ⟨h, 0, none⟩) nb nb]) (by simp [results, Try.results12, go_sem, q0, q1]) rfl ⟨g, h, rfl, ?_, ?_, hgh, ?_⟩
  · have o1 := OwnG.grown OG2.out (grown_cellG w2 (w.heap.size + 1 + 1) 1 (.slice (some ⟨h, 0, none⟩) nb nb)) (fun k hk => by simp [Value.ownBlock] at hk; subst hk; intro hh; simp at hh; omega)
    have o2 := OwnG.grown o1 (grown_cellG _ (w.heap.size + 1) 0 (.slice (some ⟨g, 0, none⟩) np np)) (fun k hk => by simp [Value.ownBlock] at hk; subst hk; intro hh; simp at hh; omega)
    have o3 := OwnG.grown o2 (grown_cellG _ (w.heap.size + 1) 1 (.slice (some ⟨h, 0, none⟩) nb nb)) (fun k hk => by simp [Value.ownBlock] at hk; subst hk; intro hh; simp at hh; omega)
    exact o3.mono (by simp; omega)
  · have o1 := OwnG.grown OH.out (grown_cellG w2 (w.heap.size + 1 + 1) 1 (.slice (some ⟨h, 0, none⟩) nb nb)) (fun k hk => by simp [Value.ownBlock] at hk; subst hk; intro hh; simp at hh; omega)
    have o2 := OwnG.grown o1 (grown_cellG _ (w.heap.size + 1) 0 (.slice (some ⟨g, 0, none⟩) np np)) (fun k hk => by simp [Value.ownBlock] at hk; subst hk; intro hh; simp at hh; omega)
    have o3 := OwnG.grown o2 (grown_cellG _ (w.heap.size + 1) 1 (.slice (some ⟨h, 0, none⟩) nb nb)) (fun k hk => by simp [Value.ownBlock] at hk; subst hk; intro hh; simp at hh; omega)
    exact o3.mono (by simp; omega)
  · repeat (first | with_reducible exact Below.refl _ _ | (with_reducible refine Below.drew ?_) | (with_reducible refine Below.alloc ?_ ?_ _; rotate_left; (focus (first | omega | (simp; omega) | (simp; done)))) | (with_reducible refine Below.setCell ?_ ?_ _; rotate_left; (focus (first | omega | (simp; omega) | (simp; done)))) | (with_reducible refine Below.trans ?_ (hb2.mono ?_); rotate_left; (focus (first | omega | (simp; omega) | (simp; done)))) | (with_reducible refine Below.trans ?_ (hb1.mono ?_); rotate_left; (focus (first | omega | (simp; omega) | (simp; done)))))

set_option maxHeartbeats 1000000 in
theorem eqPlan_same (ap ap' : Option Addr) (np cp cp' : Nat) (ab ab' : Option Addr) (nb cb cb' : Nat) (ps : List Pl) (bs : List Bk) (w : World) (hnp : np = ps.length) (hnb : nb = bs.length) (hP : RowG KPl w ap ps) (hP' : RowG KPl w ap' ps) (hK : RowG KBk w ab bs) (hK' : RowG KBk w ab' bs) (hl : np ≤ 9000000000) (hl' : nb ≤ 9000000000) :
    Calls Try.prog 18 #[.agg #[.slice ap np cp, .slice ab nb cb], .agg #[.slice ap' np cp', .slice ab' nb cb']] w fun e w' => e = .returned (.bool true) ∧ Below w.heap.size w w' := by
  have HTP := hidP (fun W h => eqPoolS_same ap ap' np cp cp' ps W hnp (hP.later h) (hP'.later h) hl)
  have HTB := hidP (fun W h => eqBlockS_same ab ab' nb cb cb' bs W hnb (hK.later h) (hK'.later h) hl')
  clear hP hP' hK hK' hnp hnb
  go_enter Try.func18, Try.ntmps18
  go_wp2_with fail
  refine (HTP.out _ ?_).mono ?_
  · repeat (first | with_reducible exact Below.refl _ _ | (with_reducible refine Below.drew ?_) | (with_reducible refine Below.alloc ?_ ?_ _; rotate_left; (focus (first | omega | (simp; omega) | (simp; done)))) | (with_reducible refine Below.setCell ?_ ?_ _; rotate_left; (focus (first | omega | (simp; omega) | (simp; done)))))
  rintro e w1 ⟨rfl, hb1⟩
  have hz1 := hb1.size
  try simp at hz1
  have f10 : w.heap.size < w1.heap.size := by omega
  have f11 : w.heap.size + 1 < w1.heap.size := by omega
  refine olds_k (w.heap.size + 2) hb1 ?_ ?_
  · first | omega | (simp; omega) | (simp; done)
  intro hc1 hf1
  go_wp2_with fail
  refine (HTB.out _ ?_).mono ?_
  · repeat (first | with_reducible exact Below.refl _ _ | (with_reducible refine Below.drew ?_) | (with_reducible refine Below.alloc ?_ ?_ _; rotate_left; (focus (first | omega | (simp; omega) | (simp; done)))) | (with_reducible refine Below.setCell ?_ ?_ _; rotate_left; (focus (first | omega | (simp; omega) | (simp; done)))) | (with_reducible refine Below.trans ?_ (hb1.mono ?_); rotate_left; (focus (first | omega | (simp; omega) | (simp; done)))))
  rintro e w2 ⟨rfl, hb2⟩
  go_wp2_with fail
  go_ret
  refine ⟨rfl, ?_⟩
  repeat (first | with_reducible exact Below.refl _ _ | (with_reducible refine Below.drew ?_) | (with_reducible refine Below.alloc ?_ ?_ _; rotate_left; (focus (first | omega | (simp; omega) | (simp; done)))) | (with_reducible refine Below.setCell ?_ ?_ _; rotate_left; (focus (first | omega | (simp; omega) | (simp; done)))) | (with_reducible refine Below.trans ?_ (hb2.mono ?_); rotate_left; (focus (first | omega | (simp; omega) | (simp; done)))) | (with_reducible refine Below.trans ?_ (hb1.mono ?_); rotate_left; (focus (first | omega | (simp; omega) | (simp; done)))))

end Go.Proofs.Ytngcbhbcocnbeaa
namespace Go.Proofs.Ytngcbhbcocnbeaa
open Go.ChangeShapes Go.WideShapes Go.ChangeAt Go.RowKit Go.Joins Go.Deep

structure Ad where
  s : Bool
  H : BitVec 64
  L : BitVec 64
def Ad.ok (a : Ad) : Bool := okB a.s a.H.toInt a.L.toInt
structure Ls where
  a : Ad
  t : ByteArray
  k : Int
  u : Int
def Ls.cs (q : Ls) : List Value := [.bool q.a.s, .int .i64 q.a.H.toInt, .int .i64 q.a.L.toInt, .string q.t, .int .i64 q.k, .int .i64 q.u]
def Ls.zero : Ls := ⟨⟨false, 0, 0⟩, ⟨#[]⟩, 0, 0⟩
def KLs : Kd Ls := ⟨6, Ls.cs, fun _ => rfl, fun x u h => by
  simp [Ls.cs] at h
  rcases h with rfl | rfl | rfl | rfl | rfl | rfl <;> rfl⟩
theorem Try.tyLs : GTy KLs (.agg #[.bool false, .int .i64 0, .int .i64 0, .string ⟨#[]⟩, .int .i64 0, .int .i64 0]) 56 Try.prog 40 62 := ⟨Try.underlying40, by kernel_rfl, rfl, by omega⟩

theorem rowLs {w : World} {a : Option Addr} {ps : List Ls} (h : RowG KLs w a ps) (j : Nat) (hj : j < ps.length) : ∃ p o q, a = some ⟨p, o, none⟩ ∧ p < w.heap.size ∧ ps[j]? = some q ∧
    w.cell? ⟨p, o + j * 6, none⟩ = some (.bool q.a.s) ∧ w.cell? ⟨p, o + j * 6 + 1, none⟩ = some (.int .i64 q.a.H.toInt) ∧ w.cell? ⟨p, o + j * 6 + 2, none⟩ = some (.int .i64 q.a.L.toInt) ∧ w.cell? ⟨p, o + j * 6 + 3, none⟩ = some (.string q.t) ∧ w.cell? ⟨p, o + j * 6 + 4, none⟩ = some (.int .i64 q.k) ∧ w.cell? ⟨p, o + j * 6 + 5, none⟩ = some (.int .i64 q.u) := by
  obtain ⟨p, o, q, ha, hp, hq, c⟩ := h j hj
  exact ⟨p, o, q, ha, hp, hq, c 0 _ rfl, c 1 _ rfl, c 2 _ rfl, c 3 _ rfl, c 4 _ rfl, c 5 _ rfl⟩
theorem rowLs0 {w : World} {g n cap B : Nat} {t : TypeId} {ps : List Ls} (h : OwnG KLs t w B (.slice (some ⟨g, 0, none⟩) n cap) ps) (j : Nat) (hj : j < ps.length) : ∃ q, g < w.heap.size ∧ ps[j]? = some q ∧
    w.cell? ⟨g, j * 6, none⟩ = some (.bool q.a.s) ∧ w.cell? ⟨g, j * 6 + 1, none⟩ = some (.int .i64 q.a.H.toInt) ∧ w.cell? ⟨g, j * 6 + 2, none⟩ = some (.int .i64 q.a.L.toInt) ∧ w.cell? ⟨g, j * 6 + 3, none⟩ = some (.string q.t) ∧ w.cell? ⟨g, j * 6 + 4, none⟩ = some (.int .i64 q.k) ∧ w.cell? ⟨g, j * 6 + 5, none⟩ = some (.int .i64 q.u) := by
  obtain ⟨p, o, q, ha, hp, hq, c0, c1, c2, c3, c4, c5⟩ := rowLs h.row j hj
  simp only [Option.some.injEq, Addr.mk.injEq, and_true] at ha
  obtain ⟨rfl, rfl⟩ := ha
  rw [Nat.zero_add] at c0 c1 c2 c3 c4 c5
  exact ⟨q, hp, hq, c0, c1, c2, c3, c4, c5⟩
theorem putLs {t : TypeId} {w : World} {B g n cap : Nat} {ps : List Ls} (h : OwnG KLs t w B (.slice (some ⟨g, 0, none⟩) n cap) ps) (hn : n = ps.length) (j : Nat) (hj : j < n) (q : Ls) :
    OwnG KLs t ((((((w.setCell ⟨g, j * 6, none⟩ (.bool q.a.s)).setCell ⟨g, j * 6 + 1, none⟩ (.int .i64 q.a.H.toInt)).setCell ⟨g, j * 6 + 2, none⟩ (.int .i64 q.a.L.toInt)).setCell ⟨g, j * 6 + 3, none⟩ (.string q.t)).setCell ⟨g, j * 6 + 4, none⟩ (.int .i64 q.k)).setCell ⟨g, j * 6 + 5, none⟩ (.int .i64 q.u)) B (.slice (some ⟨g, 0, none⟩) n cap) (ps.set j q) := h.put hn j hj q
theorem frzLs {t : TypeId} {w : World} {B g n cap : Nat} {ps : List Ls} (h : OwnG KLs t w B (.slice (some ⟨g, 0, none⟩) n cap) ps) (j : Nat) :
    w.frozen? ⟨g, j * 6, none⟩ = false ∧ w.frozen? ⟨g, j * 6 + 1, none⟩ = false ∧ w.frozen? ⟨g, j * 6 + 2, none⟩ = false ∧ w.frozen? ⟨g, j * 6 + 3, none⟩ = false ∧ w.frozen? ⟨g, j * 6 + 4, none⟩ = false ∧ w.frozen? ⟨g, j * 6 + 5, none⟩ = false := ⟨h.frozen _, h.frozen _, h.frozen _, h.frozen _, h.frozen _, h.frozen _⟩

set_option maxHeartbeats 1000000 in
theorem toLease_any (q : Ls) (w : World) :
    Calls Try.prog 42 #[.agg #[.bool q.a.s, .int .i64 q.a.H.toInt, .int .i64 q.a.L.toInt, .string q.t, .int .i64 q.k, .int .i64 q.u]] w fun e w' => e = .returned (.agg #[.bool q.a.s, .int .i64 q.a.H.toInt, .int .i64 q.a.L.toInt, .string q.t, .int .i64 q.k, .int .i64 q.u]) ∧ Below w.heap.size w w' := by
  go_enter Try.func42, Try.ntmps42
  go_wp2_with fail
  refine (toAddr_any q.a.s q.a.H.toInt q.a.L.toInt _).mono ?_
  rintro e w1 ⟨rfl, hb1⟩
  have hz1 := hb1.size
  try simp at hz1
  have f10 : w.heap.size < w1.heap.size := by omega
  have f11 : w.heap.size + 1 < w1.heap.size := by omega
  have f12 : w.heap.size + 2 < w1.heap.size := by omega
  refine olds_k (w.heap.size + 3) hb1 ?_ ?_
  · first | omega | (simp; omega) | (simp; done)
  intro hc1 hf1
  go_wp2_with fail
  refine bodyPost_ret (v := .agg #[.bool q.a.s, .int .i64 q.a.H.toInt, .int .i64 q.a.L.toInt, .string q.t, .int .i64 q.k, .int .i64 q.u]) (by simp [results, Try.results42, go_sem, hc1]) rfl ⟨rfl, ?_⟩
  repeat (first | with_reducible exact Below.refl _ _ | (with_reducible refine Below.drew ?_) | (with_reducible refine Below.alloc ?_ ?_ _; rotate_left; (focus (first | omega | (simp; omega) | (simp; done)))) | (with_reducible refine Below.setCell ?_ ?_ _; rotate_left; (focus (first | omega | (simp; omega) | (simp; done)))) | (with_reducible refine Below.trans ?_ (hb1.mono ?_); rotate_left; (focus (first | omega | (simp; omega) | (simp; done)))))

set_option maxHeartbeats 1000000 in
theorem eqLease_same (q : Ls) (w : World) :
    Calls Try.prog 46 #[.agg #[.bool q.a.s, .int .i64 q.a.H.toInt, .int .i64 q.a.L.toInt, .string q.t, .int .i64 q.k, .int .i64 q.u], .agg #[.bool q.a.s, .int .i64 q.a.H.toInt, .int .i64 q.a.L.toInt, .string q.t, .int .i64 q.k, .int .i64 q.u]] w fun e w' => e = .returned (.bool true) ∧ Below w.heap.size w w' := by
  go_enter Try.func46, Try.ntmps46
  go_wp2_with fail
  refine (eqA_same q.a.s q.a.H.toInt q.a.L.toInt _).mono ?_
  rintro e w1 ⟨rfl, hb1⟩
  have hz1 := hb1.size
  try simp at hz1
  have f10 : w.heap.size < w1.heap.size := by omega
  have f11 : w.heap.size + 1 < w1.heap.size := by omega
  refine olds_k (w.heap.size + 2) hb1 ?_ ?_
  · first | omega | (simp; omega) | (simp; done)
  intro hc1 hf1
  go_wp2_with fail
  go_ret
  refine ⟨rfl, ?_⟩
  repeat (first | with_reducible exact Below.refl _ _ | (with_reducible refine Below.drew ?_) | (with_reducible refine Below.alloc ?_ ?_ _; rotate_left; (focus (first | omega | (simp; omega) | (simp; done)))) | (with_reducible refine Below.setCell ?_ ?_ _; rotate_left; (focus (first | omega | (simp; omega) | (simp; done)))) | (with_reducible refine Below.trans ?_ (hb1.mono ?_); rotate_left; (focus (first | omega | (simp; omega) | (simp; done)))))

set_option maxHeartbeats 1000000 in
theorem toLeaseS_any (a : Option Addr) (n cap : Nat) (ps : List Ls) (w : World) (hn : n = ps.length) (hB : RowG KLs w a ps) (hl : n ≤ 1048576) :
    Calls Try.prog 27 #[.slice a n cap] w fun e w' => ∃ g, e = .returned (.slice (some ⟨g, 0, none⟩) n n) ∧ OwnG KLs 62 w' w.heap.size (.slice (some ⟨g, 0, none⟩) n n) ps ∧ Below w.heap.size w w' := by
  obtain ⟨i0, hi, hz0, hz1, hz2⟩ := info_parts Try.tyLs.2.1
  have HB := hidP hB
  have HN := hidP hn
  clear hB hn
  go_enter Try.func27, Try.ntmps27
  go_wp2_with (refine wpList_make_full _ rfl (.tmp 6) (.tmp 6) 40 rfl w.heap.size 62 i0 _ 6 Try.tyLs.1 hi hz0 hz1 .i64 .i64 n n n rfl rfl rfl rfl (by rw [hz2]; omega) (by unfold maxLen; omega) (Nat.le_refl _) ?_; intro w1 hown hgrow)
  have HO : Hid (OwnG KLs 62 w1 w.heap.size (.slice (some ⟨w.heap.size, 0, none⟩) n n) (ps.take 0 ++ List.replicate (ps.length - 0) Ls.zero)) := by
    have hm := made_gen KLs Ls.zero (by show 0 < 6; omega) (.agg #[.bool false, .int .i64 0, .int .i64 0, .string ⟨#[]⟩, .int .i64 0, .int .i64 0]) rfl n
    rw [show n * 6 = n * KLs.k from rfl, hm] at hown
    refine hidP ?_
    unfold OwnG
    rw [Nat.sub_zero, List.take_zero, List.nil_append, List.length_replicate, ← HN.out]; exact hown
  have HW : Hid (Below w.heap.size w w1) := (Below.refl _ w).grown hgrow (Nat.le_refl _) (fun k hk => by cases hk)
  clear hown hgrow
  go_loopw [4] (fun t4 wr => ∃ k : Nat, k ≤ n ∧ t4 = .int .i64 k ∧ OwnG KLs 62 wr w.heap.size (.slice (some ⟨w.heap.size, 0, none⟩) n n) (ps.take k ++ List.replicate (ps.length - k) Ls.zero) ∧ Below w.heap.size w wr) (fun t4 _ => n - (intOf t4).toNat)
  case atStart => exact ⟨0, Nat.zero_le _, rfl, HO.out, HW.out⟩
  case round =>
    obtain ⟨k, hk, rfl, hown, hbel⟩ := hrel
    by_cases hlt : k < n
    · obtain ⟨p, o, q, rfl, hp, hq, c0, c1, c2, c3, c4, c5⟩ := rowLs HB.out k (by rw [← HN.out]; exact hlt)
      have d0 := (hbel.cell hp).trans c0
      have d1 := (hbel.cell hp).trans c1
      have d2 := (hbel.cell hp).trans c2
      have d3 := (hbel.cell hp).trans c3
      have d4 := (hbel.cell hp).trans c4
      have d5 := (hbel.cell hp).trans c5
      have HOw := hidP hown
      have HBel := hidP hbel
      have HQ := hidP hq
      clear hown hbel c0 c1 c2 c3 c4 c5 hq HO HW
      go_wp2_with fail
      refine (toLease_any q _).mono ?_
      rintro e w2 ⟨rfl, hb2⟩
      have ho2 := HOw.out.later hb2
      have hlen : n = (ps.take k ++ List.replicate (ps.length - k) Ls.zero).length := by rw [List.length_append, List.length_take, List.length_replicate, HN.out]; have := HN.out; omega
      obtain ⟨f0, f1, f2, f3, f4, f5⟩ := frzLs ho2 k
      have hput' := putLs ho2 hlen k hlt q
      rw [copy_stepG Ls.zero ps k q (by rw [← HN.out]; exact hlt) HQ.out] at hput'
      have HP := hidP hput'
      obtain ⟨q', hp', _, e0, e1, e2, e3, e4, e5⟩ := rowLs0 ho2 k (by rw [← hlen]; exact hlt)
      have HBel2 := hidP (HBel.out.trans (hb2.mono HBel.out.size))
      clear hput' ho2 hb2 HBel HOw d0 d1 d2 d3 d4 d5 hlen
      go_wp2_with fail
      go_roundw
      case rel => exact ⟨k + 1, by omega, by go_num, HP.out, (((((HBel2.out.setCell (Nat.le_refl _) _).setCell (Nat.le_refl _) _).setCell (Nat.le_refl _) _).setCell (Nat.le_refl _) _).setCell (Nat.le_refl _) _).setCell (Nat.le_refl _) _⟩
      case measure => simp [intOf]; omega
    · have hkn : k = n := by omega
      subst hkn
      have HO2 : Hid (OwnG KLs 62 wr w.heap.size (.slice (some ⟨w.heap.size, 0, none⟩) k k) ps) := by
        have e := HN.out
        rw [e, List.take_length, Nat.sub_self, List.replicate_zero, List.append_nil] at hown
        rw [← e] at hown
        exact hidP hown
      have HBel : Hid (Below w.heap.size w wr) := hbel
      clear hown hbel HO HW
      go_wp2
      go_ret
      exact ⟨_, rfl, HO2.out, HBel.out⟩

set_option maxHeartbeats 1000000 in
theorem eqLeaseS_same (a b : Option Addr) (n c d : Nat) (ps : List Ls) (w : World) (hn : n = ps.length) (ha : RowG KLs w a ps) (hb : RowG KLs w b ps) (hl : n ≤ 9000000000) :
    Calls Try.prog 35 #[.slice a n c, .slice b n d] w fun e w' => e = .returned (.bool true) ∧ Below w.heap.size w w' := by
  have HA := hidP ha
  have HB := hidP hb
  have HN := hidP hn
  clear ha hb hn
  go_enter Try.func35, Try.ntmps35
  go_wp2
  go_loopw [5] (fun t5 wr => ∃ k : Nat, k ≤ n ∧ t5 = .int .i64 k ∧ Below w.heap.size w wr) (fun t5 _ => n - (intOf t5).toNat)
  case atStart => exact ⟨0, Nat.zero_le _, rfl, Below.refl _ _⟩
  case round =>
    obtain ⟨k, hk, rfl, hbel⟩ := hrel
    have HW := hidP hbel
    by_cases hlt : k < n
    · obtain ⟨p, o, q, rfl, hp, hq, c0, c1, c2, c3, c4, c5⟩ := rowLs HA.out k (by rw [← HN.out]; exact hlt)
      obtain ⟨p', o', q', rfl, hp', hq', d0, d1, d2, d3, d4, d5⟩ := rowLs HB.out k (by rw [← HN.out]; exact hlt)
      rw [hq] at hq'
      cases hq'
      have c0' := (hbel.cell hp).trans c0
      have c1' := (hbel.cell hp).trans c1
      have c2' := (hbel.cell hp).trans c2
      have c3' := (hbel.cell hp).trans c3
      have c4' := (hbel.cell hp).trans c4
      have c5' := (hbel.cell hp).trans c5
      have d0' := (hbel.cell hp').trans d0
      have d1' := (hbel.cell hp').trans d1
      have d2' := (hbel.cell hp').trans d2
      have d3' := (hbel.cell hp').trans d3
      have d4' := (hbel.cell hp').trans d4
      have d5' := (hbel.cell hp').trans d5
      clear c0 c1 c2 c3 c4 c5 d0 d1 d2 d3 d4 d5 hq hbel
      go_wp2_with fail
      go_region_with (first | (go_at_call 46; refine (eqLease_same q _).mono ?_; rintro e w2 ⟨rfl, hb2⟩))
      all_goals
        have HW2 := hidP (HW.out.drew.trans (hb2.mono HW.out.drew.size))
        clear hb2
        go_wp2
        go_roundw
        case rel => exact ⟨k + 1, by omega, by go_num, HW2.out⟩
        case measure => simp [intOf]; omega
    · have hkn : k = n := by omega
      subst hkn
      clear hbel
      go_wp2
      go_ret
      exact ⟨rfl, HW.out⟩

theorem Try.cellsLs : Try.prog.cellsOf 91 = 6 := by kernel_rfl
theorem wfA {x : Int} (h : (Lit.int .i64 x).wf = true) : (BitVec.ofInt 64 x).toInt = x := by
  have h2 : -9223372036854775808 ≤ x ∧ x ≤ 9223372036854775807 := wf_bdC h
  rw [BitVec.toInt_ofInt]
  exact Int.bmod_eq_of_le (by omega) (by omega)
theorem adOf {H : Type} {enc : TypeId × Value → H} {W : World} {fuel : Nat} {c0 c1 c2 : Value} {x : DataW H × List MemPlace}
    (h : DataW.trod enc Try.prog W 0 (fun _ => true) true fuel 84 [c0, c1, c2] = some x) : ∃ a : Ad, c0 = .bool a.s ∧ c1 = .int .i64 a.H.toInt ∧ c2 = .int .i64 a.L.toInt := by
  obtain ⟨z0, z1, z2, n, hx, _, h0, h1, h2⟩ := trod_struct3 Try.underlying84 h
  have kb : Try.prog.cellsOf 4 = 1 := by kernel_rfl
  have ki : Try.prog.cellsOf 3 = 1 := by kernel_rfl
  simp [kb, ki] at h0 h1 h2
  obtain ⟨b, e0, _⟩ := DataW.trod_bool Try.underlying4 h0
  obtain ⟨y, e1, _, wy⟩ := DataW.trod_int Try.underlying3 h1
  obtain ⟨y2, e2, _, wy2⟩ := DataW.trod_int Try.underlying3 h2
  simp at e0 e1 e2
  subst e0 e1 e2
  exact ⟨⟨b, BitVec.ofInt 64 y, BitVec.ofInt 64 y2⟩, rfl, by rw [wfA wy], by rw [wfA wy2]⟩
/-- One out of its cells. -/
theorem ofLs {H : Type} {enc : TypeId × Value → H} {W : World} {fuel : Nat} {cs : List Value} {x : DataW H × List MemPlace} (hl : cs.length = 6)
    (h : DataW.trod enc Try.prog W 0 (fun _ => true) true fuel 91 cs = some x) : ∃ q : Ls, cs = q.cs ∧ q.t.size ≤ 9223372036854775807 := by
  match cs, hl with
  | [c0, c1, c2, c3, c4, c5], _ =>
    obtain ⟨z0, z1, z2, z3, n, hx, _, h0, h1, h2, h3⟩ := trod_struct4 Try.underlying91 h
    have k0 : Try.prog.cellsOf 84 = 3 := by kernel_rfl
    have ks : Try.prog.cellsOf 9 = 1 := by kernel_rfl
    have ki : Try.prog.cellsOf 3 = 1 := by kernel_rfl
    simp [k0, ks, ki] at h0 h1 h2 h3
    obtain ⟨a, rfl, rfl, rfl⟩ := adOf h0
    obtain ⟨y, e1, _, wy⟩ := DataW.trod_string Try.underlying9 h1
    obtain ⟨k, e2, _, wk⟩ := DataW.trod_int Try.underlying3 h2
    obtain ⟨u, e3, _, wu⟩ := DataW.trod_int Try.underlying3 h3
    simp at e1 e2 e3
    subst e1 e2 e3
    exact ⟨⟨a, y, k, u⟩, rfl, by unfold maxLen at wy; show y.size ≤ _; omega⟩


set_option maxRecDepth 100000 in
/-- The things out of the reading of a row of them. -/
theorem openLs {H : Type} {enc : TypeId × Value → H} {W : World} {a : Option Addr} {len cap : Nat} {d : DataW H} {p : List MemPlace}
    (h : DataW.Trod enc Try.prog W 0 (fun _ => true) true 26 (.slice a len cap) d p) : ∃ ps : List Ls, ps.length = len ∧ len ≤ 9223372036854775807 ∧ RowG KLs W a ps ∧ ∀ q ∈ ps, q.t.size ≤ 9223372036854775807 := by
  obtain ⟨fuel, hf⟩ := h
  rcases open_slice Try.underlying26 hf with ⟨hcs, _⟩ | ⟨a', len', cap', m, n, D, Plc, hcs, _, hl, hmx, hm, _, hV⟩
  · simp [Value.cells] at hcs
    obtain ⟨rfl, rfl, rfl⟩ := hcs
    exact ⟨[], rfl, by omega, RowG.nil _ _ _, fun _ h => by cases h⟩
  · simp [Value.cells] at hcs
    obtain ⟨rfl, rfl, rfl⟩ := hcs
    suffices h9 : ∃ ps : List Ls, ps.length = len ∧ RowG KLs W (some a') ps ∧ ∀ q ∈ ps, q.t.size ≤ 9223372036854775807 by
      obtain ⟨ps, h1, h2⟩ := h9
      exact ⟨ps, h1, by unfold maxLen at hmx; omega, h2⟩
    refine rowsG_of2 (E := fun q : Ls => q.t.size ≤ 9223372036854775807) _ _ fun j hj => ?_
    simp at hm
    obtain ⟨cs', h1, h2⟩ := hV j (by omega)
    rw [Try.cellsLs] at h1
    obtain ⟨_, hlen, hcell⟩ := World.cells?_some h1
    obtain ⟨q, rfl, hq9⟩ := ofLs hlen h2
    obtain ⟨p', o', sp⟩ := a'
    cases sp with
    | some r =>
      exfalso
      obtain ⟨cs0, g1, g2⟩ := hV 0 (by omega)
      rw [Try.cellsLs] at g1
      obtain ⟨_, glen, gcell⟩ := World.cells?_some g1
      obtain ⟨q0, rfl, _⟩ := ofLs glen g2
      have h0 := gcell 0 (by omega)
      rw [Nat.zero_mul, show Addr.add (Addr.add ⟨p', o', some r⟩ 0) 0 = ⟨p', o', some r⟩ from rfl] at h0
      unfold World.cell? at h0
      split at h0
      · simp [Ls.cs] at h0
      · cases h0
    | none =>
      have ea : ∀ i k : Nat, Addr.add (Addr.add ⟨p', o', none⟩ i) k = ⟨p', o' + i + k, none⟩ := fun i k => by
        have ea1 : ∀ (o k : Nat), Addr.add ⟨p', o, none⟩ k = ⟨p', o + k, none⟩ := fun o k => by unfold Addr.add; split <;> simp_all
        rw [ea1, ea1]
      have hall : ∀ i v, (KLs.cs q)[i]? = some v → W.cell? ⟨p', o' + j * KLs.k + i, none⟩ = some v := fun i v hv => by
        have hi : i < 6 := by
          rcases Nat.lt_or_ge i (KLs.cs q).length with h1 | h1
          · exact h1
          · rw [List.getElem?_eq_none h1] at hv; cases hv
        have e0 := hcell i hi
        rw [ea] at e0
        exact e0.trans hv
      exact ⟨p', o', q, rfl, World.block_lt_of_cell? W _ (hall 0 _ rfl), hall, hq9⟩

end Go.Proofs.Ytngcbhbcocnbeaa
namespace Go.Proofs.Ytngcbhbcocnbeaa
open Go.ChangeShapes Go.WideShapes Go.ChangeAt Go.RowKit Go.Joins Go.Deep

structure Ss where
  i : Int
  l : Int
  t : ByteArray
  u : Int
def Ss.cs (q : Ss) : List Value := [.int .i64 q.i, .int .i64 q.l, .string q.t, .int .i64 q.u]
def Ss.zero : Ss := ⟨0, 0, ⟨#[]⟩, 0⟩
def KSs : Kd Ss := ⟨4, Ss.cs, fun _ => rfl, fun x u h => by
  simp [Ss.cs] at h
  rcases h with rfl | rfl | rfl | rfl <;> rfl⟩
theorem Try.tySs : GTy KSs (.agg #[.int .i64 0, .int .i64 0, .string ⟨#[]⟩, .int .i64 0]) 40 Try.prog 43 64 := ⟨Try.underlying43, by kernel_rfl, rfl, by omega⟩

theorem rowSs {w : World} {a : Option Addr} {ps : List Ss} (h : RowG KSs w a ps) (j : Nat) (hj : j < ps.length) : ∃ p o q, a = some ⟨p, o, none⟩ ∧ p < w.heap.size ∧ ps[j]? = some q ∧
    w.cell? ⟨p, o + j * 4, none⟩ = some (.int .i64 q.i) ∧ w.cell? ⟨p, o + j * 4 + 1, none⟩ = some (.int .i64 q.l) ∧ w.cell? ⟨p, o + j * 4 + 2, none⟩ = some (.string q.t) ∧ w.cell? ⟨p, o + j * 4 + 3, none⟩ = some (.int .i64 q.u) := by
  obtain ⟨p, o, q, ha, hp, hq, c⟩ := h j hj
  exact ⟨p, o, q, ha, hp, hq, c 0 _ rfl, c 1 _ rfl, c 2 _ rfl, c 3 _ rfl⟩
theorem rowSs0 {w : World} {g n cap B : Nat} {t : TypeId} {ps : List Ss} (h : OwnG KSs t w B (.slice (some ⟨g, 0, none⟩) n cap) ps) (j : Nat) (hj : j < ps.length) : ∃ q, g < w.heap.size ∧ ps[j]? = some q ∧
    w.cell? ⟨g, j * 4, none⟩ = some (.int .i64 q.i) ∧ w.cell? ⟨g, j * 4 + 1, none⟩ = some (.int .i64 q.l) ∧ w.cell? ⟨g, j * 4 + 2, none⟩ = some (.string q.t) ∧ w.cell? ⟨g, j * 4 + 3, none⟩ = some (.int .i64 q.u) := by
  obtain ⟨p, o, q, ha, hp, hq, c0, c1, c2, c3⟩ := rowSs h.row j hj
  simp only [Option.some.injEq, Addr.mk.injEq, and_true] at ha
  obtain ⟨rfl, rfl⟩ := ha
  rw [Nat.zero_add] at c0 c1 c2 c3
  exact ⟨q, hp, hq, c0, c1, c2, c3⟩
theorem putSs {t : TypeId} {w : World} {B g n cap : Nat} {ps : List Ss} (h : OwnG KSs t w B (.slice (some ⟨g, 0, none⟩) n cap) ps) (hn : n = ps.length) (j : Nat) (hj : j < n) (q : Ss) :
    OwnG KSs t ((((w.setCell ⟨g, j * 4, none⟩ (.int .i64 q.i)).setCell ⟨g, j * 4 + 1, none⟩ (.int .i64 q.l)).setCell ⟨g, j * 4 + 2, none⟩ (.string q.t)).setCell ⟨g, j * 4 + 3, none⟩ (.int .i64 q.u)) B (.slice (some ⟨g, 0, none⟩) n cap) (ps.set j q) := h.put hn j hj q
theorem frzSs {t : TypeId} {w : World} {B g n cap : Nat} {ps : List Ss} (h : OwnG KSs t w B (.slice (some ⟨g, 0, none⟩) n cap) ps) (j : Nat) :
    w.frozen? ⟨g, j * 4, none⟩ = false ∧ w.frozen? ⟨g, j * 4 + 1, none⟩ = false ∧ w.frozen? ⟨g, j * 4 + 2, none⟩ = false ∧ w.frozen? ⟨g, j * 4 + 3, none⟩ = false := ⟨h.frozen _, h.frozen _, h.frozen _, h.frozen _⟩

set_option maxHeartbeats 1000000 in
theorem toSession_any (q : Ss) (w : World) :
    Calls Try.prog 43 #[.agg #[.int .i64 q.i, .int .i64 q.l, .string q.t, .int .i64 q.u]] w fun e w' => e = .returned (.agg #[.int .i64 q.i, .int .i64 q.l, .string q.t, .int .i64 q.u]) ∧ Below w.heap.size w w' := by
  go_enter Try.func43, Try.ntmps43
  go_wp2
  refine bodyPost_ret (v := .agg #[.int .i64 q.i, .int .i64 q.l, .string q.t, .int .i64 q.u]) (by simp [results, Try.results43, go_sem]) rfl ⟨rfl, ?_⟩
  repeat (first | with_reducible exact Below.refl _ _ | (with_reducible refine Below.drew ?_) | (with_reducible refine Below.alloc ?_ ?_ _; rotate_left; (focus (first | omega | (simp; omega) | (simp; done)))) | (with_reducible refine Below.setCell ?_ ?_ _; rotate_left; (focus (first | omega | (simp; omega) | (simp; done)))))

set_option maxHeartbeats 1000000 in
theorem eqSession_same (q : Ss) (w : World) :
    Calls Try.prog 47 #[.agg #[.int .i64 q.i, .int .i64 q.l, .string q.t, .int .i64 q.u], .agg #[.int .i64 q.i, .int .i64 q.l, .string q.t, .int .i64 q.u]] w fun e w' => e = .returned (.bool true) ∧ Below w.heap.size w w' := by
  go_enter Try.func47, Try.ntmps47
  go_wp2
  go_ret
  refine ⟨rfl, ?_⟩
  repeat (first | with_reducible exact Below.refl _ _ | (with_reducible refine Below.drew ?_) | (with_reducible refine Below.alloc ?_ ?_ _; rotate_left; (focus (first | omega | (simp; omega) | (simp; done)))) | (with_reducible refine Below.setCell ?_ ?_ _; rotate_left; (focus (first | omega | (simp; omega) | (simp; done)))))

set_option maxHeartbeats 1000000 in
theorem toSessionS_any (a : Option Addr) (n cap : Nat) (ps : List Ss) (w : World) (hn : n = ps.length) (hB : RowG KSs w a ps) (hl : n ≤ 1048576) :
    Calls Try.prog 28 #[.slice a n cap] w fun e w' => ∃ g, e = .returned (.slice (some ⟨g, 0, none⟩) n n) ∧ OwnG KSs 64 w' w.heap.size (.slice (some ⟨g, 0, none⟩) n n) ps ∧ Below w.heap.size w w' := by
  obtain ⟨i0, hi, hz0, hz1, hz2⟩ := info_parts Try.tySs.2.1
  have HB := hidP hB
  have HN := hidP hn
  clear hB hn
  go_enter Try.func28, Try.ntmps28
  go_wp2_with (refine wpList_make_full _ rfl (.tmp 6) (.tmp 6) 43 rfl w.heap.size 64 i0 _ 4 Try.tySs.1 hi hz0 hz1 .i64 .i64 n n n rfl rfl rfl rfl (by rw [hz2]; omega) (by unfold maxLen; omega) (Nat.le_refl _) ?_; intro w1 hown hgrow)
  have HO : Hid (OwnG KSs 64 w1 w.heap.size (.slice (some ⟨w.heap.size, 0, none⟩) n n) (ps.take 0 ++ List.replicate (ps.length - 0) Ss.zero)) := by
    have hm := made_gen KSs Ss.zero (by show 0 < 4; omega) (.agg #[.int .i64 0, .int .i64 0, .string ⟨#[]⟩, .int .i64 0]) rfl n
    rw [show n * 4 = n * KSs.k from rfl, hm] at hown
    refine hidP ?_
    unfold OwnG
    rw [Nat.sub_zero, List.take_zero, List.nil_append, List.length_replicate, ← HN.out]; exact hown
  have HW : Hid (Below w.heap.size w w1) := (Below.refl _ w).grown hgrow (Nat.le_refl _) (fun k hk => by cases hk)
  clear hown hgrow
  go_loopw [4] (fun t4 wr => ∃ k : Nat, k ≤ n ∧ t4 = .int .i64 k ∧ OwnG KSs 64 wr w.heap.size (.slice (some ⟨w.heap.size, 0, none⟩) n n) (ps.take k ++ List.replicate (ps.length - k) Ss.zero) ∧ Below w.heap.size w wr) (fun t4 _ => n - (intOf t4).toNat)
  case atStart => exact ⟨0, Nat.zero_le _, rfl, HO.out, HW.out⟩
  case round =>
    obtain ⟨k, hk, rfl, hown, hbel⟩ := hrel
    by_cases hlt : k < n
    · obtain ⟨p, o, q, rfl, hp, hq, c0, c1, c2, c3⟩ := rowSs HB.out k (by rw [← HN.out]; exact hlt)
      have d0 := (hbel.cell hp).trans c0
      have d1 := (hbel.cell hp).trans c1
      have d2 := (hbel.cell hp).trans c2
      have d3 := (hbel.cell hp).trans c3
      have HOw := hidP hown
      have HBel := hidP hbel
      have HQ := hidP hq
      clear hown hbel c0 c1 c2 c3 hq HO HW
      go_wp2_with fail
      refine (toSession_any q _).mono ?_
      rintro e w2 ⟨rfl, hb2⟩
      have ho2 := HOw.out.later hb2
      have hlen : n = (ps.take k ++ List.replicate (ps.length - k) Ss.zero).length := by rw [List.length_append, List.length_take, List.length_replicate, HN.out]; have := HN.out; omega
      obtain ⟨f0, f1, f2, f3⟩ := frzSs ho2 k
      have hput' := putSs ho2 hlen k hlt q
      rw [copy_stepG Ss.zero ps k q (by rw [← HN.out]; exact hlt) HQ.out] at hput'
      have HP := hidP hput'
      obtain ⟨q', hp', _, e0, e1, e2, e3⟩ := rowSs0 ho2 k (by rw [← hlen]; exact hlt)
      have HBel2 := hidP (HBel.out.trans (hb2.mono HBel.out.size))
      clear hput' ho2 hb2 HBel HOw d0 d1 d2 d3 hlen
      go_wp2_with fail
      go_roundw
      case rel => exact ⟨k + 1, by omega, by go_num, HP.out, (((HBel2.out.setCell (Nat.le_refl _) _).setCell (Nat.le_refl _) _).setCell (Nat.le_refl _) _).setCell (Nat.le_refl _) _⟩
      case measure => simp [intOf]; omega
    · have hkn : k = n := by omega
      subst hkn
      have HO2 : Hid (OwnG KSs 64 wr w.heap.size (.slice (some ⟨w.heap.size, 0, none⟩) k k) ps) := by
        have e := HN.out
        rw [e, List.take_length, Nat.sub_self, List.replicate_zero, List.append_nil] at hown
        rw [← e] at hown
        exact hidP hown
      have HBel : Hid (Below w.heap.size w wr) := hbel
      clear hown hbel HO HW
      go_wp2
      go_ret
      exact ⟨_, rfl, HO2.out, HBel.out⟩

set_option maxHeartbeats 1000000 in
theorem eqSessionS_same (a b : Option Addr) (n c d : Nat) (ps : List Ss) (w : World) (hn : n = ps.length) (ha : RowG KSs w a ps) (hb : RowG KSs w b ps) (hl : n ≤ 9000000000) :
    Calls Try.prog 36 #[.slice a n c, .slice b n d] w fun e w' => e = .returned (.bool true) ∧ Below w.heap.size w w' := by
  have HA := hidP ha
  have HB := hidP hb
  have HN := hidP hn
  clear ha hb hn
  go_enter Try.func36, Try.ntmps36
  go_wp2
  go_loopw [5] (fun t5 wr => ∃ k : Nat, k ≤ n ∧ t5 = .int .i64 k ∧ Below w.heap.size w wr) (fun t5 _ => n - (intOf t5).toNat)
  case atStart => exact ⟨0, Nat.zero_le _, rfl, Below.refl _ _⟩
  case round =>
    obtain ⟨k, hk, rfl, hbel⟩ := hrel
    have HW := hidP hbel
    by_cases hlt : k < n
    · obtain ⟨p, o, q, rfl, hp, hq, c0, c1, c2, c3⟩ := rowSs HA.out k (by rw [← HN.out]; exact hlt)
      obtain ⟨p', o', q', rfl, hp', hq', d0, d1, d2, d3⟩ := rowSs HB.out k (by rw [← HN.out]; exact hlt)
      rw [hq] at hq'
      cases hq'
      have c0' := (hbel.cell hp).trans c0
      have c1' := (hbel.cell hp).trans c1
      have c2' := (hbel.cell hp).trans c2
      have c3' := (hbel.cell hp).trans c3
      have d0' := (hbel.cell hp').trans d0
      have d1' := (hbel.cell hp').trans d1
      have d2' := (hbel.cell hp').trans d2
      have d3' := (hbel.cell hp').trans d3
      clear c0 c1 c2 c3 d0 d1 d2 d3 hq hbel
      go_wp2_with fail
      go_region_with (first | (go_at_call 47; refine (eqSession_same q _).mono ?_; rintro e w2 ⟨rfl, hb2⟩))
      all_goals
        have HW2 := hidP (HW.out.drew.trans (hb2.mono HW.out.drew.size))
        clear hb2
        go_wp2
        go_roundw
        case rel => exact ⟨k + 1, by omega, by go_num, HW2.out⟩
        case measure => simp [intOf]; omega
    · have hkn : k = n := by omega
      subst hkn
      clear hbel
      go_wp2
      go_ret
      exact ⟨rfl, HW.out⟩

theorem Try.cellsSs : Try.prog.cellsOf 93 = 4 := by kernel_rfl
/-- One out of its cells. -/
theorem ofSs {H : Type} {enc : TypeId × Value → H} {W : World} {fuel : Nat} {cs : List Value} {x : DataW H × List MemPlace} (hl : cs.length = 4)
    (h : DataW.trod enc Try.prog W 0 (fun _ => true) true fuel 93 cs = some x) : ∃ q : Ss, cs = q.cs ∧ q.t.size ≤ 9223372036854775807 := by
  match cs, hl with
  | [c0, c1, c2, c3], _ =>
    obtain ⟨z0, z1, z2, z3, n, hx, _, h0, h1, h2, h3⟩ := trod_struct4 Try.underlying93 h
    have ks : Try.prog.cellsOf 9 = 1 := by kernel_rfl
    have ki : Try.prog.cellsOf 3 = 1 := by kernel_rfl
    simp [ks, ki] at h0 h1 h2 h3
    obtain ⟨y, e0, _, wy⟩ := DataW.trod_int Try.underlying3 h0
    obtain ⟨k, e1, _, wk⟩ := DataW.trod_int Try.underlying3 h1
    obtain ⟨s, e2, _, ws⟩ := DataW.trod_string Try.underlying9 h2
    obtain ⟨u, e3, _, wu⟩ := DataW.trod_int Try.underlying3 h3
    simp at e0 e1 e2 e3
    subst e0 e1 e2 e3
    exact ⟨⟨y, k, s, u⟩, rfl, by unfold maxLen at ws; show s.size ≤ _; omega⟩


set_option maxRecDepth 100000 in
/-- The things out of the reading of a row of them. -/
theorem openSs {H : Type} {enc : TypeId × Value → H} {W : World} {a : Option Addr} {len cap : Nat} {d : DataW H} {p : List MemPlace}
    (h : DataW.Trod enc Try.prog W 0 (fun _ => true) true 29 (.slice a len cap) d p) : ∃ ps : List Ss, ps.length = len ∧ len ≤ 9223372036854775807 ∧ RowG KSs W a ps ∧ ∀ q ∈ ps, q.t.size ≤ 9223372036854775807 := by
  obtain ⟨fuel, hf⟩ := h
  rcases open_slice Try.underlying29 hf with ⟨hcs, _⟩ | ⟨a', len', cap', m, n, D, Plc, hcs, _, hl, hmx, hm, _, hV⟩
  · simp [Value.cells] at hcs
    obtain ⟨rfl, rfl, rfl⟩ := hcs
    exact ⟨[], rfl, by omega, RowG.nil _ _ _, fun _ h => by cases h⟩
  · simp [Value.cells] at hcs
    obtain ⟨rfl, rfl, rfl⟩ := hcs
    suffices h9 : ∃ ps : List Ss, ps.length = len ∧ RowG KSs W (some a') ps ∧ ∀ q ∈ ps, q.t.size ≤ 9223372036854775807 by
      obtain ⟨ps, h1, h2⟩ := h9
      exact ⟨ps, h1, by unfold maxLen at hmx; omega, h2⟩
    refine rowsG_of2 (E := fun q : Ss => q.t.size ≤ 9223372036854775807) _ _ fun j hj => ?_
    simp at hm
    obtain ⟨cs', h1, h2⟩ := hV j (by omega)
    rw [Try.cellsSs] at h1
    obtain ⟨_, hlen, hcell⟩ := World.cells?_some h1
    obtain ⟨q, rfl, hq9⟩ := ofSs hlen h2
    obtain ⟨p', o', sp⟩ := a'
    cases sp with
    | some r =>
      exfalso
      obtain ⟨cs0, g1, g2⟩ := hV 0 (by omega)
      rw [Try.cellsSs] at g1
      obtain ⟨_, glen, gcell⟩ := World.cells?_some g1
      obtain ⟨q0, rfl, _⟩ := ofSs glen g2
      have h0 := gcell 0 (by omega)
      rw [Nat.zero_mul, show Addr.add (Addr.add ⟨p', o', some r⟩ 0) 0 = ⟨p', o', some r⟩ from rfl] at h0
      unfold World.cell? at h0
      split at h0
      · simp [Ss.cs] at h0
      · cases h0
    | none =>
      have ea : ∀ i k : Nat, Addr.add (Addr.add ⟨p', o', none⟩ i) k = ⟨p', o' + i + k, none⟩ := fun i k => by
        have ea1 : ∀ (o k : Nat), Addr.add ⟨p', o, none⟩ k = ⟨p', o + k, none⟩ := fun o k => by unfold Addr.add; split <;> simp_all
        rw [ea1, ea1]
      have hall : ∀ i v, (KSs.cs q)[i]? = some v → W.cell? ⟨p', o' + j * KSs.k + i, none⟩ = some v := fun i v hv => by
        have hi : i < 4 := by
          rcases Nat.lt_or_ge i (KSs.cs q).length with h1 | h1
          · exact h1
          · rw [List.getElem?_eq_none h1] at hv; cases hv
        have e0 := hcell i hi
        rw [ea] at e0
        exact e0.trans hv
      exact ⟨p', o', q, rfl, World.block_lt_of_cell? W _ (hall 0 _ rfl), hall, hq9⟩

end Go.Proofs.Ytngcbhbcocnbeaa
namespace Go.Proofs.Ytngcbhbcocnbeaa
open Go.RowKit

theorem eqA9998 (a : Bool) (b c : Int) (d : Bool) (e f : Int) (w : World) : (Op.equalIn 9998 54 (.agg #[.bool a, .int .i64 b, .int .i64 c]) (.agg #[.bool d, .int .i64 e, .int .i64 f])).run Try.prog w = .ok (a == d && (b == e && c == f)) w := by
  have u1 := Try.underlying3
  have a1 := Try.isAgg3
  have z1 := Try.sizeOf3
  have u2 := Try.underlying4
  have a2 := Try.isAgg4
  have z2 := Try.sizeOf4
  have hS : Try.prog.underlying 54 = some (.struct (Try.prog.fieldsOf 54)) := by kernel_rfl
  have hp : Try.prog.stoodInHeld 54 = false := by kernel_rfl
  rw [show (9998 : Nat) = 9997 + 1 from rfl, run_equalIn_agg w 9997 54 _ _ hS hp]
  simp only [Program.fieldsOf, Try.underlying54]
  go_simp
  by_cases h1 : a = d <;> by_cases h2 : b = e <;> by_cases h3 : c = f <;> simp [h1, h2, h3]
theorem eqA9999 (a : Bool) (b c : Int) (d : Bool) (e f : Int) (w : World) : (Op.equalIn 9999 54 (.agg #[.bool a, .int .i64 b, .int .i64 c]) (.agg #[.bool d, .int .i64 e, .int .i64 f])).run Try.prog w = .ok (a == d && (b == e && c == f)) w := by
  have u1 := Try.underlying3
  have a1 := Try.isAgg3
  have z1 := Try.sizeOf3
  have u2 := Try.underlying4
  have a2 := Try.isAgg4
  have z2 := Try.sizeOf4
  have hS : Try.prog.underlying 54 = some (.struct (Try.prog.fieldsOf 54)) := by kernel_rfl
  have hp : Try.prog.stoodInHeld 54 = false := by kernel_rfl
  rw [show (9999 : Nat) = 9998 + 1 from rfl, run_equalIn_agg w 9998 54 _ _ hS hp]
  simp only [Program.fieldsOf, Try.underlying54]
  go_simp
  by_cases h1 : a = d <;> by_cases h2 : b = e <;> by_cases h3 : c = f <;> simp [h1, h2, h3]
set_option maxHeartbeats 1000000 in
theorem eqP9999 (a : Bool) (b c x : Int) (d : Bool) (e f y : Int) (w : World) : (Op.equalIn 9999 56 (.agg #[.bool a, .int .i64 b, .int .i64 c, .int .i64 x]) (.agg #[.bool d, .int .i64 e, .int .i64 f, .int .i64 y])).run Try.prog w = .ok ((a == d && (b == e && c == f)) && x == y) w := by
  have u1 := Try.underlying3
  have a1 := Try.isAgg3
  have z1 := Try.sizeOf3
  have u2 := Try.underlying54
  have a2 := Try.isAgg54
  have z2 := Try.sizeOf54
  have h9 := eqA9998 a b c d e f
  generalize (a == d && (b == e && c == f)) = r at *
  have hS : Try.prog.underlying 56 = some (.struct (Try.prog.fieldsOf 56)) := by kernel_rfl
  have hp : Try.prog.stoodInHeld 56 = false := by kernel_rfl
  rw [show (9999 : Nat) = 9998 + 1 from rfl, run_equalIn_agg w 9998 56 _ _ hS hp]
  simp only [Program.fieldsOf, Try.underlying56]
  cases r <;> by_cases h4 : x = y
  all_goals
    go_simp
    try simp [h4]
def eqPlB (p q : Pl) : Bool := ((p.p.s == q.p.s && (p.p.H.toInt == q.p.H.toInt && p.p.L.toInt == q.p.L.toInt)) && p.p.b == q.p.b) && p.n == q.n
def eqBkB (p q : Bk) : Bool := ((p.p.s == q.p.s && (p.p.H.toInt == q.p.H.toInt && p.p.L.toInt == q.p.L.toInt)) && p.p.b == q.p.b) && p.t.toList == q.t.toList
def eqLsB (p q : Ls) : Bool := (p.a.s == q.a.s && (p.a.H.toInt == q.a.H.toInt && p.a.L.toInt == q.a.L.toInt)) && (p.t.toList == q.t.toList && (p.k == q.k && p.u == q.u))
def eqSsB (p q : Ss) : Bool := p.i == q.i && (p.l == q.l && (p.t.toList == q.t.toList && p.u == q.u))
set_option maxHeartbeats 1000000 in
theorem eqPl_run (p q : Pl) (w : World) : (Op.equalIn 10000 58 (.agg #[.bool p.p.s, .int .i64 p.p.H.toInt, .int .i64 p.p.L.toInt, .int .i64 p.p.b, .int .i64 p.n]) (.agg #[.bool q.p.s, .int .i64 q.p.H.toInt, .int .i64 q.p.L.toInt, .int .i64 q.p.b, .int .i64 q.n])).run Try.prog w = .ok (eqPlB p q) w := by
  have u1 := Try.underlying3
  have a1 := Try.isAgg3
  have z1 := Try.sizeOf3
  have u2 := Try.underlying56
  have a2 := Try.isAgg56
  have z2 := Try.sizeOf56
  have h9 := eqP9999 p.p.s p.p.H.toInt p.p.L.toInt p.p.b q.p.s q.p.H.toInt q.p.L.toInt q.p.b
  unfold eqPlB
  generalize ((p.p.s == q.p.s && (p.p.H.toInt == q.p.H.toInt && p.p.L.toInt == q.p.L.toInt)) && p.p.b == q.p.b) = r at *
  have hS : Try.prog.underlying 58 = some (.struct (Try.prog.fieldsOf 58)) := by kernel_rfl
  have hp : Try.prog.stoodInHeld 58 = false := by kernel_rfl
  rw [show (10000 : Nat) = 9999 + 1 from rfl, run_equalIn_agg w 9999 58 _ _ hS hp]
  simp only [Program.fieldsOf, Try.underlying58]
  cases r <;> by_cases h4 : p.n = q.n
  all_goals
    go_simp
    try simp [h4]
set_option maxHeartbeats 1000000 in
theorem eqBk_run (p q : Bk) (w : World) : (Op.equalIn 10000 60 (.agg #[.bool p.p.s, .int .i64 p.p.H.toInt, .int .i64 p.p.L.toInt, .int .i64 p.p.b, .string p.t]) (.agg #[.bool q.p.s, .int .i64 q.p.H.toInt, .int .i64 q.p.L.toInt, .int .i64 q.p.b, .string q.t])).run Try.prog w = .ok (eqBkB p q) w := by
  have u1 := Try.underlying3
  have a1 := Try.isAgg3
  have z1 := Try.sizeOf3
  have u2 := Try.underlying56
  have a2 := Try.isAgg56
  have z2 := Try.sizeOf56
  have h9 := eqP9999 p.p.s p.p.H.toInt p.p.L.toInt p.p.b q.p.s q.p.H.toInt q.p.L.toInt q.p.b
  have u3 := Try.underlying9
  have a3 := Try.isAgg9
  have z3 := Try.sizeOf9
  unfold eqBkB
  generalize ((p.p.s == q.p.s && (p.p.H.toInt == q.p.H.toInt && p.p.L.toInt == q.p.L.toInt)) && p.p.b == q.p.b) = r at *
  have hS : Try.prog.underlying 60 = some (.struct (Try.prog.fieldsOf 60)) := by kernel_rfl
  have hp : Try.prog.stoodInHeld 60 = false := by kernel_rfl
  rw [show (10000 : Nat) = 9999 + 1 from rfl, run_equalIn_agg w 9999 60 _ _ hS hp]
  simp only [Program.fieldsOf, Try.underlying60]
  cases r <;> by_cases h4 : p.t.toList = q.t.toList
  all_goals
    go_simp
    try simp [h4]
set_option maxHeartbeats 1000000 in
theorem eqLs_run (p q : Ls) (w : World) : (Op.equalIn 10000 62 (.agg #[.bool p.a.s, .int .i64 p.a.H.toInt, .int .i64 p.a.L.toInt, .string p.t, .int .i64 p.k, .int .i64 p.u]) (.agg #[.bool q.a.s, .int .i64 q.a.H.toInt, .int .i64 q.a.L.toInt, .string q.t, .int .i64 q.k, .int .i64 q.u])).run Try.prog w = .ok (eqLsB p q) w := by
  have u1 := Try.underlying3
  have a1 := Try.isAgg3
  have z1 := Try.sizeOf3
  have u2 := Try.underlying54
  have a2 := Try.isAgg54
  have z2 := Try.sizeOf54
  have h9 := eqA9999 p.a.s p.a.H.toInt p.a.L.toInt q.a.s q.a.H.toInt q.a.L.toInt
  have u3 := Try.underlying9
  have a3 := Try.isAgg9
  have z3 := Try.sizeOf9
  unfold eqLsB
  generalize (p.a.s == q.a.s && (p.a.H.toInt == q.a.H.toInt && p.a.L.toInt == q.a.L.toInt)) = r at *
  have hS : Try.prog.underlying 62 = some (.struct (Try.prog.fieldsOf 62)) := by kernel_rfl
  have hp : Try.prog.stoodInHeld 62 = false := by kernel_rfl
  rw [show (10000 : Nat) = 9999 + 1 from rfl, run_equalIn_agg w 9999 62 _ _ hS hp]
  simp only [Program.fieldsOf, Try.underlying62]
  cases r <;> by_cases h4 : p.t.toList = q.t.toList <;> by_cases h5 : p.k = q.k <;> by_cases h6 : p.u = q.u
  all_goals
    go_simp
    try simp [h4, h5, h6]
set_option maxHeartbeats 1000000 in
theorem eqSs_run (p q : Ss) (w : World) : (Op.equalIn 10000 64 (.agg #[.int .i64 p.i, .int .i64 p.l, .string p.t, .int .i64 p.u]) (.agg #[.int .i64 q.i, .int .i64 q.l, .string q.t, .int .i64 q.u])).run Try.prog w = .ok (eqSsB p q) w := by
  have u1 := Try.underlying3
  have a1 := Try.isAgg3
  have z1 := Try.sizeOf3
  have u3 := Try.underlying9
  have a3 := Try.isAgg9
  have z3 := Try.sizeOf9
  unfold eqSsB
  have hS : Try.prog.underlying 64 = some (.struct (Try.prog.fieldsOf 64)) := by kernel_rfl
  have hp : Try.prog.stoodInHeld 64 = false := by kernel_rfl
  rw [show (10000 : Nat) = 9999 + 1 from rfl, run_equalIn_agg w 9999 64 _ _ hS hp]
  simp only [Program.fieldsOf, Try.underlying64]
  by_cases h4 : p.i = q.i <;> by_cases h5 : p.l = q.l <;> by_cases h6 : p.t.toList = q.t.toList <;> by_cases h7 : p.u = q.u
  all_goals
    go_simp
    try simp [h4, h5, h6, h7]
/-- Two lists compared, one by one. -/
def eqlB {α : Type} (f : α → α → Bool) : List α → List α → Bool
  | [], [] => true
  | x :: xs, y :: ys => f x y && eqlB f xs ys
  | _, _ => false
theorem eqlB_len {α : Type} {f : α → α → Bool} : ∀ {xs ys : List α}, xs.length ≠ ys.length → eqlB f xs ys = false
  | [], [], h => absurd rfl h
  | x :: xs, y :: ys, h => by unfold eqlB; rw [eqlB_len (fun e => h (by simp [e]))]; simp
  | [], _ :: _, _ => rfl
  | _ :: _, [], _ => rfl
theorem drop_atE {α : Type} {xs : List α} {k : Nat} {x : α} (h : xs[k]? = some x) : xs.drop k = x :: xs.drop (k + 1) := by
  obtain ⟨hk, rfl⟩ := List.getElem?_eq_some_iff.mp h
  exact List.drop_eq_getElem_cons hk
theorem eqlB_at {α : Type} {f : α → α → Bool} {xs ys : List α} {k : Nat} {x y : α} (hx : xs[k]? = some x) (hy : ys[k]? = some y) : eqlB f (xs.drop k) (ys.drop k) = (f x y && eqlB f (xs.drop (k + 1)) (ys.drop (k + 1))) := by
  rw [drop_atE hx, drop_atE hy]; rfl
theorem eqlB_end {α : Type} {f : α → α → Bool} {xs ys : List α} {k : Nat} (hx : xs.length ≤ k) (hy : ys.length ≤ k) : eqlB f (xs.drop k) (ys.drop k) = true := by
  rw [List.drop_of_length_le hx, List.drop_of_length_le hy]; rfl

end Go.Proofs.Ytngcbhbcocnbeaa
namespace Go.Proofs.Ytngcbhbcocnbeaa
open Go.RowKit

set_option maxRecDepth 10000 in
set_option maxHeartbeats 2000000 in
theorem eqSlPl_any (a b : Option Addr) (n ca m cb : Nat) (xs ys : List Pl) (w : World) (hn : n = xs.length) (hm : m = ys.length) (h1 : RowG KPl w a xs) (h2 : RowG KPl w b ys) (hl : n ≤ 1048576) (hl' : m ≤ 1048576) :
    Calls Try.prog 29 #[.slice a n ca, .slice b m cb] w fun e w' => e = .returned (.bool (eqlB eqPlB xs ys)) ∧ Below w.heap.size w w' := by
  have HR := hidP h1
  have HQ := hidP h2
  by_cases hnm : n = m
  · subst hnm
    have HN := hidP hn
    have HM := hidP hm
    clear hn hm h1 h2
    go_enter Try.func29, Try.ntmps29
    go_wp2_with fail
    go_loopw [13] (fun t13 wr => ∃ k : Nat, k ≤ n ∧ t13 = .int .i64 k ∧ eqlB eqPlB xs ys = eqlB eqPlB (xs.drop k) (ys.drop k) ∧ Below w.heap.size w wr) (fun t13 _ => n - (intOf t13).toNat)
    case atStart => exact ⟨0, Nat.zero_le _, rfl, rfl, Below.refl _ _⟩
    case round =>
      obtain ⟨k, hk, rfl, hpo, hbel⟩ := hrel
      have HBel := hidP hbel
      by_cases hlt : k < n
      · obtain ⟨p, o, q, rfl, hp, hq, c0, c1, c2, c3, c4⟩ := rowPl HR.out k (by have := HN.out; omega)
        obtain ⟨p', o', q', rfl, hp', hq', e0, e1, e2, e3, e4⟩ := rowPl HQ.out k (by have := HM.out; omega)
        have d0 := (hbel.cell hp).trans c0
        have g0 := (hbel.cell hp').trans e0
        have d1 := (hbel.cell hp).trans c1
        have g1 := (hbel.cell hp').trans e1
        have d2 := (hbel.cell hp).trans c2
        have g2 := (hbel.cell hp').trans e2
        have d3 := (hbel.cell hp).trans c3
        have g3 := (hbel.cell hp').trans e3
        have d4 := (hbel.cell hp).trans c4
        have g4 := (hbel.cell hp').trans e4
        have hpw : p < wr.heap.size := Nat.lt_of_lt_of_le hp hbel.size
        have hpw' : p' < wr.heap.size := Nat.lt_of_lt_of_le hp' hbel.size
        have k0 : (0 : Int) ≤ (k : Int) := by omega
        have k1 : (k : Int) < (n : Int) := by omega
        rw [eqlB_at hq hq'] at hpo
        have HPo := hidP hpo
        have hE := fun wx => eqPl_run q q' wx
        generalize eqPlB q q' = r at *
        clear hpo hq hq' c0 e0 c1 e1 c2 e2 c3 e3 c4 e4
        clear hbel
        go_upto_region 6 with fail
        cases r
        · have HSx : Hid (∀ x, Below wr.heap.size wr x → (x.cell? ⟨p, o + k * 5, none⟩ = some (.bool q.p.s) ∧ x.cell? ⟨p, o + k * 5 + 1, none⟩ = some (.int .i64 q.p.H.toInt) ∧ x.cell? ⟨p, o + k * 5 + 2, none⟩ = some (.int .i64 q.p.L.toInt) ∧ x.cell? ⟨p, o + k * 5 + 3, none⟩ = some (.int .i64 q.p.b) ∧ x.cell? ⟨p, o + k * 5 + 4, none⟩ = some (.int .i64 q.n) ∧ x.cell? ⟨p', o' + k * 5, none⟩ = some (.bool q'.p.s) ∧ x.cell? ⟨p', o' + k * 5 + 1, none⟩ = some (.int .i64 q'.p.H.toInt) ∧ x.cell? ⟨p', o' + k * 5 + 2, none⟩ = some (.int .i64 q'.p.L.toInt) ∧ x.cell? ⟨p', o' + k * 5 + 3, none⟩ = some (.int .i64 q'.p.b) ∧ x.cell? ⟨p', o' + k * 5 + 4, none⟩ = some (.int .i64 q'.n) ∧ Below wr.heap.size wr x)) := hidP fun x h =>
            ⟨(h.cell hpw).trans d0, (h.cell hpw).trans d1, (h.cell hpw).trans d2, (h.cell hpw).trans d3, (h.cell hpw).trans d4, (h.cell hpw').trans g0, (h.cell hpw').trans g1, (h.cell hpw').trans g2, (h.cell hpw').trans g3, (h.cell hpw').trans g4, h⟩
          refine wp_region_held_drew (S := (fun x => x.cell? ⟨p, o + k * 5, none⟩ = some (.bool q.p.s) ∧ x.cell? ⟨p, o + k * 5 + 1, none⟩ = some (.int .i64 q.p.H.toInt) ∧ x.cell? ⟨p, o + k * 5 + 2, none⟩ = some (.int .i64 q.p.L.toInt) ∧ x.cell? ⟨p, o + k * 5 + 3, none⟩ = some (.int .i64 q.p.b) ∧ x.cell? ⟨p, o + k * 5 + 4, none⟩ = some (.int .i64 q.n) ∧ x.cell? ⟨p', o' + k * 5, none⟩ = some (.bool q'.p.s) ∧ x.cell? ⟨p', o' + k * 5 + 1, none⟩ = some (.int .i64 q'.p.H.toInt) ∧ x.cell? ⟨p', o' + k * 5 + 2, none⟩ = some (.int .i64 q'.p.L.toInt) ∧ x.cell? ⟨p', o' + k * 5 + 3, none⟩ = some (.int .i64 q'.p.b) ∧ x.cell? ⟨p', o' + k * 5 + 4, none⟩ = some (.int .i64 q'.n) ∧ Below wr.heap.size wr x)) (by kernel_rfl) ?_ (fun hHeld => ?_)
          · try dsimp only
            exact HSx.out _ ((Below.refl _ _).drew)
          refine tkA 0 16 (v := ?_) rfl (by kernel_rfl) (fun _ _ _ h => h) (by rfl) ?_ (by assumption) ?_; rotate_left; · (intro w hSw; (try dsimp only at hSw); go_simp; try with_reducible rfl)
          simp only [pa]
          refine tkA 1 17 (v := ?_) rfl (by kernel_rfl) (fun _ _ _ h => h) (by rfl) ?_ (by assumption) ?_; rotate_left; · (intro w hSw; (try dsimp only at hSw); go_simp; try with_reducible rfl)
          simp only [pa]
          refine tkA 2 18 (v := ?_) rfl (by kernel_rfl) (fun _ _ _ h => h) (by rfl) ?_ (by assumption) ?_; rotate_left; · (intro w hSw; (try dsimp only at hSw); go_simp; try with_reducible rfl)
          simp only [pa]
          refine tkA 3 19 (v := ?_) rfl (by kernel_rfl) (fun _ _ _ h => h) (by rfl) ?_ (by assumption) ?_; rotate_left; · (intro w hSw; (try dsimp only at hSw); go_simp; try with_reducible rfl)
          simp only [pa]
          refine tkA 4 20 (v := ?_) rfl (by kernel_rfl) (fun _ _ _ h => h) (by rfl) ?_ (by assumption) ?_; rotate_left; · (intro w hSw; (try dsimp only at hSw); go_simp; try with_reducible rfl)
          simp only [pa]
          refine tkA 5 21 (v := ?_) rfl (by kernel_rfl) (fun _ _ _ h => h) (by rfl) ?_ (by assumption) ?_; rotate_left; · (intro w hSw; (try dsimp only at hSw); go_simp; try with_reducible rfl)
          simp only [pa]
          refine tkA 6 22 (v := ?_) rfl (by kernel_rfl) (fun _ _ _ h => h) (by rfl) ?_ (by assumption) ?_; rotate_left; · (intro w hSw; (try dsimp only at hSw); go_simp; try with_reducible rfl)
          simp only [pa]
          refine tkA 7 23 (v := ?_) rfl (by kernel_rfl) (fun _ _ _ h => h) (by rfl) ?_ (by assumption) ?_; rotate_left; · (intro w hSw; (try dsimp only at hSw); go_simp; try with_reducible rfl)
          simp only [pa]
          refine tkA 8 24 (v := ?_) rfl (by kernel_rfl) (fun _ _ _ h => h) (by rfl) ?_ (by assumption) ?_; rotate_left; · (intro w hSw; (try dsimp only at hSw); go_simp; try with_reducible rfl)
          simp only [pa]
          have HE := hidP (hHeld.2.2.2.2.2.2.2.2.2.2)
          refine wpAnyH_done (by kernel_rfl) ?_ _
          clear hHeld
          go_wp2_with fail
          go_ret
          exact ⟨ret_b (by rw [HPo.out]; rfl), HBel.out.trans (HE.out.mono HBel.out.size)⟩
        · have HSx : Hid (∀ x, Below wr.heap.size wr x → (x.cell? ⟨p, o + k * 5, none⟩ = some (.bool q.p.s) ∧ x.cell? ⟨p, o + k * 5 + 1, none⟩ = some (.int .i64 q.p.H.toInt) ∧ x.cell? ⟨p, o + k * 5 + 2, none⟩ = some (.int .i64 q.p.L.toInt) ∧ x.cell? ⟨p, o + k * 5 + 3, none⟩ = some (.int .i64 q.p.b) ∧ x.cell? ⟨p, o + k * 5 + 4, none⟩ = some (.int .i64 q.n) ∧ x.cell? ⟨p', o' + k * 5, none⟩ = some (.bool q'.p.s) ∧ x.cell? ⟨p', o' + k * 5 + 1, none⟩ = some (.int .i64 q'.p.H.toInt) ∧ x.cell? ⟨p', o' + k * 5 + 2, none⟩ = some (.int .i64 q'.p.L.toInt) ∧ x.cell? ⟨p', o' + k * 5 + 3, none⟩ = some (.int .i64 q'.p.b) ∧ x.cell? ⟨p', o' + k * 5 + 4, none⟩ = some (.int .i64 q'.n) ∧ Below wr.heap.size wr x)) := hidP fun x h =>
            ⟨(h.cell hpw).trans d0, (h.cell hpw).trans d1, (h.cell hpw).trans d2, (h.cell hpw).trans d3, (h.cell hpw).trans d4, (h.cell hpw').trans g0, (h.cell hpw').trans g1, (h.cell hpw').trans g2, (h.cell hpw').trans g3, (h.cell hpw').trans g4, h⟩
          refine wp_region_held_drew (S := (fun x => x.cell? ⟨p, o + k * 5, none⟩ = some (.bool q.p.s) ∧ x.cell? ⟨p, o + k * 5 + 1, none⟩ = some (.int .i64 q.p.H.toInt) ∧ x.cell? ⟨p, o + k * 5 + 2, none⟩ = some (.int .i64 q.p.L.toInt) ∧ x.cell? ⟨p, o + k * 5 + 3, none⟩ = some (.int .i64 q.p.b) ∧ x.cell? ⟨p, o + k * 5 + 4, none⟩ = some (.int .i64 q.n) ∧ x.cell? ⟨p', o' + k * 5, none⟩ = some (.bool q'.p.s) ∧ x.cell? ⟨p', o' + k * 5 + 1, none⟩ = some (.int .i64 q'.p.H.toInt) ∧ x.cell? ⟨p', o' + k * 5 + 2, none⟩ = some (.int .i64 q'.p.L.toInt) ∧ x.cell? ⟨p', o' + k * 5 + 3, none⟩ = some (.int .i64 q'.p.b) ∧ x.cell? ⟨p', o' + k * 5 + 4, none⟩ = some (.int .i64 q'.n) ∧ Below wr.heap.size wr x)) (by kernel_rfl) ?_ (fun hHeld => ?_)
          · try dsimp only
            exact HSx.out _ ((Below.refl _ _).drew)
          refine tkA 0 16 (v := ?_) rfl (by kernel_rfl) (fun _ _ _ h => h) (by rfl) ?_ (by assumption) ?_; rotate_left; · (intro w hSw; (try dsimp only at hSw); go_simp; try with_reducible rfl)
          simp only [pa]
          refine tkA 1 17 (v := ?_) rfl (by kernel_rfl) (fun _ _ _ h => h) (by rfl) ?_ (by assumption) ?_; rotate_left; · (intro w hSw; (try dsimp only at hSw); go_simp; try with_reducible rfl)
          simp only [pa]
          refine tkA 2 18 (v := ?_) rfl (by kernel_rfl) (fun _ _ _ h => h) (by rfl) ?_ (by assumption) ?_; rotate_left; · (intro w hSw; (try dsimp only at hSw); go_simp; try with_reducible rfl)
          simp only [pa]
          refine tkA 3 19 (v := ?_) rfl (by kernel_rfl) (fun _ _ _ h => h) (by rfl) ?_ (by assumption) ?_; rotate_left; · (intro w hSw; (try dsimp only at hSw); go_simp; try with_reducible rfl)
          simp only [pa]
          refine tkA 4 20 (v := ?_) rfl (by kernel_rfl) (fun _ _ _ h => h) (by rfl) ?_ (by assumption) ?_; rotate_left; · (intro w hSw; (try dsimp only at hSw); go_simp; try with_reducible rfl)
          simp only [pa]
          refine tkA 5 21 (v := ?_) rfl (by kernel_rfl) (fun _ _ _ h => h) (by rfl) ?_ (by assumption) ?_; rotate_left; · (intro w hSw; (try dsimp only at hSw); go_simp; try with_reducible rfl)
          simp only [pa]
          refine tkA 6 22 (v := ?_) rfl (by kernel_rfl) (fun _ _ _ h => h) (by rfl) ?_ (by assumption) ?_; rotate_left; · (intro w hSw; (try dsimp only at hSw); go_simp; try with_reducible rfl)
          simp only [pa]
          refine tkA 7 23 (v := ?_) rfl (by kernel_rfl) (fun _ _ _ h => h) (by rfl) ?_ (by assumption) ?_; rotate_left; · (intro w hSw; (try dsimp only at hSw); go_simp; try with_reducible rfl)
          simp only [pa]
          refine tkA 8 24 (v := ?_) rfl (by kernel_rfl) (fun _ _ _ h => h) (by rfl) ?_ (by assumption) ?_; rotate_left; · (intro w hSw; (try dsimp only at hSw); go_simp; try with_reducible rfl)
          simp only [pa]
          have HE := hidP (hHeld.2.2.2.2.2.2.2.2.2.2)
          refine wpAnyH_done (by kernel_rfl) ?_ _
          clear hHeld
          go_wp2_with fail
          go_roundw
          case rel => exact ⟨k + 1, by omega, by go_num, by rw [HPo.out]; rfl, HBel.out.trans (HE.out.mono HBel.out.size)⟩
          case measure => simp [intOf]; omega
      · have HT : Hid (eqlB eqPlB xs ys = true) := hidP (by rw [hpo, eqlB_end (by have := HN.out; omega) (by have := HM.out; omega)])
        clear hbel hpo
        go_wp2_with fail
        go_ret
        exact ⟨ret_b HT.out.symm, HBel.out⟩
  · have HF : Hid (eqlB eqPlB xs ys = false) := hidP (eqlB_len (by rw [← hn, ← hm]; exact hnm))
    have e1 : ¬ ((n : Int) = (m : Int)) := by omega
    have e2 : ((n : Int) != (m : Int)) = true := by simpa using e1
    clear hn hm h1 h2
    go_enter Try.func29, Try.ntmps29
    go_wp2_with fail
    go_ret
    exact ⟨ret_b HF.out.symm, Below.refl _ _⟩

set_option maxRecDepth 10000 in
set_option maxHeartbeats 2000000 in
theorem eqSlBk_any (a b : Option Addr) (n ca m cb : Nat) (xs ys : List Bk) (w : World) (hn : n = xs.length) (hm : m = ys.length) (h1 : RowG KBk w a xs) (h2 : RowG KBk w b ys) (hl : n ≤ 1048576) (hl' : m ≤ 1048576) :
    Calls Try.prog 30 #[.slice a n ca, .slice b m cb] w fun e w' => e = .returned (.bool (eqlB eqBkB xs ys)) ∧ Below w.heap.size w w' := by
  have HR := hidP h1
  have HQ := hidP h2
  by_cases hnm : n = m
  · subst hnm
    have HN := hidP hn
    have HM := hidP hm
    clear hn hm h1 h2
    go_enter Try.func30, Try.ntmps30
    go_wp2_with fail
    go_loopw [13] (fun t13 wr => ∃ k : Nat, k ≤ n ∧ t13 = .int .i64 k ∧ eqlB eqBkB xs ys = eqlB eqBkB (xs.drop k) (ys.drop k) ∧ Below w.heap.size w wr) (fun t13 _ => n - (intOf t13).toNat)
    case atStart => exact ⟨0, Nat.zero_le _, rfl, rfl, Below.refl _ _⟩
    case round =>
      obtain ⟨k, hk, rfl, hpo, hbel⟩ := hrel
      have HBel := hidP hbel
      by_cases hlt : k < n
      · obtain ⟨p, o, q, rfl, hp, hq, c0, c1, c2, c3, c4⟩ := rowBk HR.out k (by have := HN.out; omega)
        obtain ⟨p', o', q', rfl, hp', hq', e0, e1, e2, e3, e4⟩ := rowBk HQ.out k (by have := HM.out; omega)
        have d0 := (hbel.cell hp).trans c0
        have g0 := (hbel.cell hp').trans e0
        have d1 := (hbel.cell hp).trans c1
        have g1 := (hbel.cell hp').trans e1
        have d2 := (hbel.cell hp).trans c2
        have g2 := (hbel.cell hp').trans e2
        have d3 := (hbel.cell hp).trans c3
        have g3 := (hbel.cell hp').trans e3
        have d4 := (hbel.cell hp).trans c4
        have g4 := (hbel.cell hp').trans e4
        have hpw : p < wr.heap.size := Nat.lt_of_lt_of_le hp hbel.size
        have hpw' : p' < wr.heap.size := Nat.lt_of_lt_of_le hp' hbel.size
        have k0 : (0 : Int) ≤ (k : Int) := by omega
        have k1 : (k : Int) < (n : Int) := by omega
        rw [eqlB_at hq hq'] at hpo
        have HPo := hidP hpo
        have hE := fun wx => eqBk_run q q' wx
        generalize eqBkB q q' = r at *
        clear hpo hq hq' c0 e0 c1 e1 c2 e2 c3 e3 c4 e4
        clear hbel
        go_upto_region 6 with fail
        cases r
        · have HSx : Hid (∀ x, Below wr.heap.size wr x → (x.cell? ⟨p, o + k * 5, none⟩ = some (.bool q.p.s) ∧ x.cell? ⟨p, o + k * 5 + 1, none⟩ = some (.int .i64 q.p.H.toInt) ∧ x.cell? ⟨p, o + k * 5 + 2, none⟩ = some (.int .i64 q.p.L.toInt) ∧ x.cell? ⟨p, o + k * 5 + 3, none⟩ = some (.int .i64 q.p.b) ∧ x.cell? ⟨p, o + k * 5 + 4, none⟩ = some (.string q.t) ∧ x.cell? ⟨p', o' + k * 5, none⟩ = some (.bool q'.p.s) ∧ x.cell? ⟨p', o' + k * 5 + 1, none⟩ = some (.int .i64 q'.p.H.toInt) ∧ x.cell? ⟨p', o' + k * 5 + 2, none⟩ = some (.int .i64 q'.p.L.toInt) ∧ x.cell? ⟨p', o' + k * 5 + 3, none⟩ = some (.int .i64 q'.p.b) ∧ x.cell? ⟨p', o' + k * 5 + 4, none⟩ = some (.string q'.t) ∧ Below wr.heap.size wr x)) := hidP fun x h =>
            ⟨(h.cell hpw).trans d0, (h.cell hpw).trans d1, (h.cell hpw).trans d2, (h.cell hpw).trans d3, (h.cell hpw).trans d4, (h.cell hpw').trans g0, (h.cell hpw').trans g1, (h.cell hpw').trans g2, (h.cell hpw').trans g3, (h.cell hpw').trans g4, h⟩
          refine wp_region_held_drew (S := (fun x => x.cell? ⟨p, o + k * 5, none⟩ = some (.bool q.p.s) ∧ x.cell? ⟨p, o + k * 5 + 1, none⟩ = some (.int .i64 q.p.H.toInt) ∧ x.cell? ⟨p, o + k * 5 + 2, none⟩ = some (.int .i64 q.p.L.toInt) ∧ x.cell? ⟨p, o + k * 5 + 3, none⟩ = some (.int .i64 q.p.b) ∧ x.cell? ⟨p, o + k * 5 + 4, none⟩ = some (.string q.t) ∧ x.cell? ⟨p', o' + k * 5, none⟩ = some (.bool q'.p.s) ∧ x.cell? ⟨p', o' + k * 5 + 1, none⟩ = some (.int .i64 q'.p.H.toInt) ∧ x.cell? ⟨p', o' + k * 5 + 2, none⟩ = some (.int .i64 q'.p.L.toInt) ∧ x.cell? ⟨p', o' + k * 5 + 3, none⟩ = some (.int .i64 q'.p.b) ∧ x.cell? ⟨p', o' + k * 5 + 4, none⟩ = some (.string q'.t) ∧ Below wr.heap.size wr x)) (by kernel_rfl) ?_ (fun hHeld => ?_)
          · try dsimp only
            exact HSx.out _ ((Below.refl _ _).drew)
          refine tkA 0 16 (v := ?_) rfl (by kernel_rfl) (fun _ _ _ h => h) (by rfl) ?_ (by assumption) ?_; rotate_left; · (intro w hSw; (try dsimp only at hSw); go_simp; try with_reducible rfl)
          simp only [pa]
          refine tkA 1 17 (v := ?_) rfl (by kernel_rfl) (fun _ _ _ h => h) (by rfl) ?_ (by assumption) ?_; rotate_left; · (intro w hSw; (try dsimp only at hSw); go_simp; try with_reducible rfl)
          simp only [pa]
          refine tkA 2 18 (v := ?_) rfl (by kernel_rfl) (fun _ _ _ h => h) (by rfl) ?_ (by assumption) ?_; rotate_left; · (intro w hSw; (try dsimp only at hSw); go_simp; try with_reducible rfl)
          simp only [pa]
          refine tkA 3 19 (v := ?_) rfl (by kernel_rfl) (fun _ _ _ h => h) (by rfl) ?_ (by assumption) ?_; rotate_left; · (intro w hSw; (try dsimp only at hSw); go_simp; try with_reducible rfl)
          simp only [pa]
          refine tkA 4 20 (v := ?_) rfl (by kernel_rfl) (fun _ _ _ h => h) (by rfl) ?_ (by assumption) ?_; rotate_left; · (intro w hSw; (try dsimp only at hSw); go_simp; try with_reducible rfl)
          simp only [pa]
          refine tkA 5 21 (v := ?_) rfl (by kernel_rfl) (fun _ _ _ h => h) (by rfl) ?_ (by assumption) ?_; rotate_left; · (intro w hSw; (try dsimp only at hSw); go_simp; try with_reducible rfl)
          simp only [pa]
          refine tkA 6 22 (v := ?_) rfl (by kernel_rfl) (fun _ _ _ h => h) (by rfl) ?_ (by assumption) ?_; rotate_left; · (intro w hSw; (try dsimp only at hSw); go_simp; try with_reducible rfl)
          simp only [pa]
          refine tkA 7 23 (v := ?_) rfl (by kernel_rfl) (fun _ _ _ h => h) (by rfl) ?_ (by assumption) ?_; rotate_left; · (intro w hSw; (try dsimp only at hSw); go_simp; try with_reducible rfl)
          simp only [pa]
          refine tkA 8 24 (v := ?_) rfl (by kernel_rfl) (fun _ _ _ h => h) (by rfl) ?_ (by assumption) ?_; rotate_left; · (intro w hSw; (try dsimp only at hSw); go_simp; try with_reducible rfl)
          simp only [pa]
          have HE := hidP (hHeld.2.2.2.2.2.2.2.2.2.2)
          refine wpAnyH_done (by kernel_rfl) ?_ _
          clear hHeld
          go_wp2_with fail
          go_ret
          exact ⟨ret_b (by rw [HPo.out]; rfl), HBel.out.trans (HE.out.mono HBel.out.size)⟩
        · have HSx : Hid (∀ x, Below wr.heap.size wr x → (x.cell? ⟨p, o + k * 5, none⟩ = some (.bool q.p.s) ∧ x.cell? ⟨p, o + k * 5 + 1, none⟩ = some (.int .i64 q.p.H.toInt) ∧ x.cell? ⟨p, o + k * 5 + 2, none⟩ = some (.int .i64 q.p.L.toInt) ∧ x.cell? ⟨p, o + k * 5 + 3, none⟩ = some (.int .i64 q.p.b) ∧ x.cell? ⟨p, o + k * 5 + 4, none⟩ = some (.string q.t) ∧ x.cell? ⟨p', o' + k * 5, none⟩ = some (.bool q'.p.s) ∧ x.cell? ⟨p', o' + k * 5 + 1, none⟩ = some (.int .i64 q'.p.H.toInt) ∧ x.cell? ⟨p', o' + k * 5 + 2, none⟩ = some (.int .i64 q'.p.L.toInt) ∧ x.cell? ⟨p', o' + k * 5 + 3, none⟩ = some (.int .i64 q'.p.b) ∧ x.cell? ⟨p', o' + k * 5 + 4, none⟩ = some (.string q'.t) ∧ Below wr.heap.size wr x)) := hidP fun x h =>
            ⟨(h.cell hpw).trans d0, (h.cell hpw).trans d1, (h.cell hpw).trans d2, (h.cell hpw).trans d3, (h.cell hpw).trans d4, (h.cell hpw').trans g0, (h.cell hpw').trans g1, (h.cell hpw').trans g2, (h.cell hpw').trans g3, (h.cell hpw').trans g4, h⟩
          refine wp_region_held_drew (S := (fun x => x.cell? ⟨p, o + k * 5, none⟩ = some (.bool q.p.s) ∧ x.cell? ⟨p, o + k * 5 + 1, none⟩ = some (.int .i64 q.p.H.toInt) ∧ x.cell? ⟨p, o + k * 5 + 2, none⟩ = some (.int .i64 q.p.L.toInt) ∧ x.cell? ⟨p, o + k * 5 + 3, none⟩ = some (.int .i64 q.p.b) ∧ x.cell? ⟨p, o + k * 5 + 4, none⟩ = some (.string q.t) ∧ x.cell? ⟨p', o' + k * 5, none⟩ = some (.bool q'.p.s) ∧ x.cell? ⟨p', o' + k * 5 + 1, none⟩ = some (.int .i64 q'.p.H.toInt) ∧ x.cell? ⟨p', o' + k * 5 + 2, none⟩ = some (.int .i64 q'.p.L.toInt) ∧ x.cell? ⟨p', o' + k * 5 + 3, none⟩ = some (.int .i64 q'.p.b) ∧ x.cell? ⟨p', o' + k * 5 + 4, none⟩ = some (.string q'.t) ∧ Below wr.heap.size wr x)) (by kernel_rfl) ?_ (fun hHeld => ?_)
          · try dsimp only
            exact HSx.out _ ((Below.refl _ _).drew)
          refine tkA 0 16 (v := ?_) rfl (by kernel_rfl) (fun _ _ _ h => h) (by rfl) ?_ (by assumption) ?_; rotate_left; · (intro w hSw; (try dsimp only at hSw); go_simp; try with_reducible rfl)
          simp only [pa]
          refine tkA 1 17 (v := ?_) rfl (by kernel_rfl) (fun _ _ _ h => h) (by rfl) ?_ (by assumption) ?_; rotate_left; · (intro w hSw; (try dsimp only at hSw); go_simp; try with_reducible rfl)
          simp only [pa]
          refine tkA 2 18 (v := ?_) rfl (by kernel_rfl) (fun _ _ _ h => h) (by rfl) ?_ (by assumption) ?_; rotate_left; · (intro w hSw; (try dsimp only at hSw); go_simp; try with_reducible rfl)
          simp only [pa]
          refine tkA 3 19 (v := ?_) rfl (by kernel_rfl) (fun _ _ _ h => h) (by rfl) ?_ (by assumption) ?_; rotate_left; · (intro w hSw; (try dsimp only at hSw); go_simp; try with_reducible rfl)
          simp only [pa]
          refine tkA 4 20 (v := ?_) rfl (by kernel_rfl) (fun _ _ _ h => h) (by rfl) ?_ (by assumption) ?_; rotate_left; · (intro w hSw; (try dsimp only at hSw); go_simp; try with_reducible rfl)
          simp only [pa]
          refine tkA 5 21 (v := ?_) rfl (by kernel_rfl) (fun _ _ _ h => h) (by rfl) ?_ (by assumption) ?_; rotate_left; · (intro w hSw; (try dsimp only at hSw); go_simp; try with_reducible rfl)
          simp only [pa]
          refine tkA 6 22 (v := ?_) rfl (by kernel_rfl) (fun _ _ _ h => h) (by rfl) ?_ (by assumption) ?_; rotate_left; · (intro w hSw; (try dsimp only at hSw); go_simp; try with_reducible rfl)
          simp only [pa]
          refine tkA 7 23 (v := ?_) rfl (by kernel_rfl) (fun _ _ _ h => h) (by rfl) ?_ (by assumption) ?_; rotate_left; · (intro w hSw; (try dsimp only at hSw); go_simp; try with_reducible rfl)
          simp only [pa]
          refine tkA 8 24 (v := ?_) rfl (by kernel_rfl) (fun _ _ _ h => h) (by rfl) ?_ (by assumption) ?_; rotate_left; · (intro w hSw; (try dsimp only at hSw); go_simp; try with_reducible rfl)
          simp only [pa]
          have HE := hidP (hHeld.2.2.2.2.2.2.2.2.2.2)
          refine wpAnyH_done (by kernel_rfl) ?_ _
          clear hHeld
          go_wp2_with fail
          go_roundw
          case rel => exact ⟨k + 1, by omega, by go_num, by rw [HPo.out]; rfl, HBel.out.trans (HE.out.mono HBel.out.size)⟩
          case measure => simp [intOf]; omega
      · have HT : Hid (eqlB eqBkB xs ys = true) := hidP (by rw [hpo, eqlB_end (by have := HN.out; omega) (by have := HM.out; omega)])
        clear hbel hpo
        go_wp2_with fail
        go_ret
        exact ⟨ret_b HT.out.symm, HBel.out⟩
  · have HF : Hid (eqlB eqBkB xs ys = false) := hidP (eqlB_len (by rw [← hn, ← hm]; exact hnm))
    have e1 : ¬ ((n : Int) = (m : Int)) := by omega
    have e2 : ((n : Int) != (m : Int)) = true := by simpa using e1
    clear hn hm h1 h2
    go_enter Try.func30, Try.ntmps30
    go_wp2_with fail
    go_ret
    exact ⟨ret_b HF.out.symm, Below.refl _ _⟩

set_option maxRecDepth 10000 in
set_option maxHeartbeats 2000000 in
theorem eqSlLs_any (a b : Option Addr) (n ca m cb : Nat) (xs ys : List Ls) (w : World) (hn : n = xs.length) (hm : m = ys.length) (h1 : RowG KLs w a xs) (h2 : RowG KLs w b ys) (hl : n ≤ 1048576) (hl' : m ≤ 1048576) :
    Calls Try.prog 31 #[.slice a n ca, .slice b m cb] w fun e w' => e = .returned (.bool (eqlB eqLsB xs ys)) ∧ Below w.heap.size w w' := by
  have HR := hidP h1
  have HQ := hidP h2
  by_cases hnm : n = m
  · subst hnm
    have HN := hidP hn
    have HM := hidP hm
    clear hn hm h1 h2
    go_enter Try.func31, Try.ntmps31
    go_wp2_with fail
    go_loopw [13] (fun t13 wr => ∃ k : Nat, k ≤ n ∧ t13 = .int .i64 k ∧ eqlB eqLsB xs ys = eqlB eqLsB (xs.drop k) (ys.drop k) ∧ Below w.heap.size w wr) (fun t13 _ => n - (intOf t13).toNat)
    case atStart => exact ⟨0, Nat.zero_le _, rfl, rfl, Below.refl _ _⟩
    case round =>
      obtain ⟨k, hk, rfl, hpo, hbel⟩ := hrel
      have HBel := hidP hbel
      by_cases hlt : k < n
      · obtain ⟨p, o, q, rfl, hp, hq, c0, c1, c2, c3, c4, c5⟩ := rowLs HR.out k (by have := HN.out; omega)
        obtain ⟨p', o', q', rfl, hp', hq', e0, e1, e2, e3, e4, e5⟩ := rowLs HQ.out k (by have := HM.out; omega)
        have d0 := (hbel.cell hp).trans c0
        have g0 := (hbel.cell hp').trans e0
        have d1 := (hbel.cell hp).trans c1
        have g1 := (hbel.cell hp').trans e1
        have d2 := (hbel.cell hp).trans c2
        have g2 := (hbel.cell hp').trans e2
        have d3 := (hbel.cell hp).trans c3
        have g3 := (hbel.cell hp').trans e3
        have d4 := (hbel.cell hp).trans c4
        have g4 := (hbel.cell hp').trans e4
        have d5 := (hbel.cell hp).trans c5
        have g5 := (hbel.cell hp').trans e5
        have hpw : p < wr.heap.size := Nat.lt_of_lt_of_le hp hbel.size
        have hpw' : p' < wr.heap.size := Nat.lt_of_lt_of_le hp' hbel.size
        have k0 : (0 : Int) ≤ (k : Int) := by omega
        have k1 : (k : Int) < (n : Int) := by omega
        rw [eqlB_at hq hq'] at hpo
        have HPo := hidP hpo
        have hE := fun wx => eqLs_run q q' wx
        generalize eqLsB q q' = r at *
        clear hpo hq hq' c0 e0 c1 e1 c2 e2 c3 e3 c4 e4 c5 e5
        clear hbel
        go_upto_region 6 with fail
        cases r
        · have HSx : Hid (∀ x, Below wr.heap.size wr x → (x.cell? ⟨p, o + k * 6, none⟩ = some (.bool q.a.s) ∧ x.cell? ⟨p, o + k * 6 + 1, none⟩ = some (.int .i64 q.a.H.toInt) ∧ x.cell? ⟨p, o + k * 6 + 2, none⟩ = some (.int .i64 q.a.L.toInt) ∧ x.cell? ⟨p, o + k * 6 + 3, none⟩ = some (.string q.t) ∧ x.cell? ⟨p, o + k * 6 + 4, none⟩ = some (.int .i64 q.k) ∧ x.cell? ⟨p, o + k * 6 + 5, none⟩ = some (.int .i64 q.u) ∧ x.cell? ⟨p', o' + k * 6, none⟩ = some (.bool q'.a.s) ∧ x.cell? ⟨p', o' + k * 6 + 1, none⟩ = some (.int .i64 q'.a.H.toInt) ∧ x.cell? ⟨p', o' + k * 6 + 2, none⟩ = some (.int .i64 q'.a.L.toInt) ∧ x.cell? ⟨p', o' + k * 6 + 3, none⟩ = some (.string q'.t) ∧ x.cell? ⟨p', o' + k * 6 + 4, none⟩ = some (.int .i64 q'.k) ∧ x.cell? ⟨p', o' + k * 6 + 5, none⟩ = some (.int .i64 q'.u) ∧ Below wr.heap.size wr x)) := hidP fun x h =>
            ⟨(h.cell hpw).trans d0, (h.cell hpw).trans d1, (h.cell hpw).trans d2, (h.cell hpw).trans d3, (h.cell hpw).trans d4, (h.cell hpw).trans d5, (h.cell hpw').trans g0, (h.cell hpw').trans g1, (h.cell hpw').trans g2, (h.cell hpw').trans g3, (h.cell hpw').trans g4, (h.cell hpw').trans g5, h⟩
          refine wp_region_held_drew (S := (fun x => x.cell? ⟨p, o + k * 6, none⟩ = some (.bool q.a.s) ∧ x.cell? ⟨p, o + k * 6 + 1, none⟩ = some (.int .i64 q.a.H.toInt) ∧ x.cell? ⟨p, o + k * 6 + 2, none⟩ = some (.int .i64 q.a.L.toInt) ∧ x.cell? ⟨p, o + k * 6 + 3, none⟩ = some (.string q.t) ∧ x.cell? ⟨p, o + k * 6 + 4, none⟩ = some (.int .i64 q.k) ∧ x.cell? ⟨p, o + k * 6 + 5, none⟩ = some (.int .i64 q.u) ∧ x.cell? ⟨p', o' + k * 6, none⟩ = some (.bool q'.a.s) ∧ x.cell? ⟨p', o' + k * 6 + 1, none⟩ = some (.int .i64 q'.a.H.toInt) ∧ x.cell? ⟨p', o' + k * 6 + 2, none⟩ = some (.int .i64 q'.a.L.toInt) ∧ x.cell? ⟨p', o' + k * 6 + 3, none⟩ = some (.string q'.t) ∧ x.cell? ⟨p', o' + k * 6 + 4, none⟩ = some (.int .i64 q'.k) ∧ x.cell? ⟨p', o' + k * 6 + 5, none⟩ = some (.int .i64 q'.u) ∧ Below wr.heap.size wr x)) (by kernel_rfl) ?_ (fun hHeld => ?_)
          · try dsimp only
            exact HSx.out _ ((Below.refl _ _).drew)
          refine tkA 0 16 (v := ?_) rfl (by kernel_rfl) (fun _ _ _ h => h) (by rfl) ?_ (by assumption) ?_; rotate_left; · (intro w hSw; (try dsimp only at hSw); go_simp; try with_reducible rfl)
          simp only [pa]
          refine tkA 1 17 (v := ?_) rfl (by kernel_rfl) (fun _ _ _ h => h) (by rfl) ?_ (by assumption) ?_; rotate_left; · (intro w hSw; (try dsimp only at hSw); go_simp; try with_reducible rfl)
          simp only [pa]
          refine tkA 2 18 (v := ?_) rfl (by kernel_rfl) (fun _ _ _ h => h) (by rfl) ?_ (by assumption) ?_; rotate_left; · (intro w hSw; (try dsimp only at hSw); go_simp; try with_reducible rfl)
          simp only [pa]
          refine tkA 3 19 (v := ?_) rfl (by kernel_rfl) (fun _ _ _ h => h) (by rfl) ?_ (by assumption) ?_; rotate_left; · (intro w hSw; (try dsimp only at hSw); go_simp; try with_reducible rfl)
          simp only [pa]
          refine tkA 4 20 (v := ?_) rfl (by kernel_rfl) (fun _ _ _ h => h) (by rfl) ?_ (by assumption) ?_; rotate_left; · (intro w hSw; (try dsimp only at hSw); go_simp; try with_reducible rfl)
          simp only [pa]
          refine tkA 5 21 (v := ?_) rfl (by kernel_rfl) (fun _ _ _ h => h) (by rfl) ?_ (by assumption) ?_; rotate_left; · (intro w hSw; (try dsimp only at hSw); go_simp; try with_reducible rfl)
          simp only [pa]
          refine tkA 6 22 (v := ?_) rfl (by kernel_rfl) (fun _ _ _ h => h) (by rfl) ?_ (by assumption) ?_; rotate_left; · (intro w hSw; (try dsimp only at hSw); go_simp; try with_reducible rfl)
          simp only [pa]
          refine tkA 7 23 (v := ?_) rfl (by kernel_rfl) (fun _ _ _ h => h) (by rfl) ?_ (by assumption) ?_; rotate_left; · (intro w hSw; (try dsimp only at hSw); go_simp; try with_reducible rfl)
          simp only [pa]
          refine tkA 8 24 (v := ?_) rfl (by kernel_rfl) (fun _ _ _ h => h) (by rfl) ?_ (by assumption) ?_; rotate_left; · (intro w hSw; (try dsimp only at hSw); go_simp; try with_reducible rfl)
          simp only [pa]
          have HE := hidP (hHeld.2.2.2.2.2.2.2.2.2.2.2.2)
          refine wpAnyH_done (by kernel_rfl) ?_ _
          clear hHeld
          go_wp2_with fail
          go_ret
          exact ⟨ret_b (by rw [HPo.out]; rfl), HBel.out.trans (HE.out.mono HBel.out.size)⟩
        · have HSx : Hid (∀ x, Below wr.heap.size wr x → (x.cell? ⟨p, o + k * 6, none⟩ = some (.bool q.a.s) ∧ x.cell? ⟨p, o + k * 6 + 1, none⟩ = some (.int .i64 q.a.H.toInt) ∧ x.cell? ⟨p, o + k * 6 + 2, none⟩ = some (.int .i64 q.a.L.toInt) ∧ x.cell? ⟨p, o + k * 6 + 3, none⟩ = some (.string q.t) ∧ x.cell? ⟨p, o + k * 6 + 4, none⟩ = some (.int .i64 q.k) ∧ x.cell? ⟨p, o + k * 6 + 5, none⟩ = some (.int .i64 q.u) ∧ x.cell? ⟨p', o' + k * 6, none⟩ = some (.bool q'.a.s) ∧ x.cell? ⟨p', o' + k * 6 + 1, none⟩ = some (.int .i64 q'.a.H.toInt) ∧ x.cell? ⟨p', o' + k * 6 + 2, none⟩ = some (.int .i64 q'.a.L.toInt) ∧ x.cell? ⟨p', o' + k * 6 + 3, none⟩ = some (.string q'.t) ∧ x.cell? ⟨p', o' + k * 6 + 4, none⟩ = some (.int .i64 q'.k) ∧ x.cell? ⟨p', o' + k * 6 + 5, none⟩ = some (.int .i64 q'.u) ∧ Below wr.heap.size wr x)) := hidP fun x h =>
            ⟨(h.cell hpw).trans d0, (h.cell hpw).trans d1, (h.cell hpw).trans d2, (h.cell hpw).trans d3, (h.cell hpw).trans d4, (h.cell hpw).trans d5, (h.cell hpw').trans g0, (h.cell hpw').trans g1, (h.cell hpw').trans g2, (h.cell hpw').trans g3, (h.cell hpw').trans g4, (h.cell hpw').trans g5, h⟩
          refine wp_region_held_drew (S := (fun x => x.cell? ⟨p, o + k * 6, none⟩ = some (.bool q.a.s) ∧ x.cell? ⟨p, o + k * 6 + 1, none⟩ = some (.int .i64 q.a.H.toInt) ∧ x.cell? ⟨p, o + k * 6 + 2, none⟩ = some (.int .i64 q.a.L.toInt) ∧ x.cell? ⟨p, o + k * 6 + 3, none⟩ = some (.string q.t) ∧ x.cell? ⟨p, o + k * 6 + 4, none⟩ = some (.int .i64 q.k) ∧ x.cell? ⟨p, o + k * 6 + 5, none⟩ = some (.int .i64 q.u) ∧ x.cell? ⟨p', o' + k * 6, none⟩ = some (.bool q'.a.s) ∧ x.cell? ⟨p', o' + k * 6 + 1, none⟩ = some (.int .i64 q'.a.H.toInt) ∧ x.cell? ⟨p', o' + k * 6 + 2, none⟩ = some (.int .i64 q'.a.L.toInt) ∧ x.cell? ⟨p', o' + k * 6 + 3, none⟩ = some (.string q'.t) ∧ x.cell? ⟨p', o' + k * 6 + 4, none⟩ = some (.int .i64 q'.k) ∧ x.cell? ⟨p', o' + k * 6 + 5, none⟩ = some (.int .i64 q'.u) ∧ Below wr.heap.size wr x)) (by kernel_rfl) ?_ (fun hHeld => ?_)
          · try dsimp only
            exact HSx.out _ ((Below.refl _ _).drew)
          refine tkA 0 16 (v := ?_) rfl (by kernel_rfl) (fun _ _ _ h => h) (by rfl) ?_ (by assumption) ?_; rotate_left; · (intro w hSw; (try dsimp only at hSw); go_simp; try with_reducible rfl)
          simp only [pa]
          refine tkA 1 17 (v := ?_) rfl (by kernel_rfl) (fun _ _ _ h => h) (by rfl) ?_ (by assumption) ?_; rotate_left; · (intro w hSw; (try dsimp only at hSw); go_simp; try with_reducible rfl)
          simp only [pa]
          refine tkA 2 18 (v := ?_) rfl (by kernel_rfl) (fun _ _ _ h => h) (by rfl) ?_ (by assumption) ?_; rotate_left; · (intro w hSw; (try dsimp only at hSw); go_simp; try with_reducible rfl)
          simp only [pa]
          refine tkA 3 19 (v := ?_) rfl (by kernel_rfl) (fun _ _ _ h => h) (by rfl) ?_ (by assumption) ?_; rotate_left; · (intro w hSw; (try dsimp only at hSw); go_simp; try with_reducible rfl)
          simp only [pa]
          refine tkA 4 20 (v := ?_) rfl (by kernel_rfl) (fun _ _ _ h => h) (by rfl) ?_ (by assumption) ?_; rotate_left; · (intro w hSw; (try dsimp only at hSw); go_simp; try with_reducible rfl)
          simp only [pa]
          refine tkA 5 21 (v := ?_) rfl (by kernel_rfl) (fun _ _ _ h => h) (by rfl) ?_ (by assumption) ?_; rotate_left; · (intro w hSw; (try dsimp only at hSw); go_simp; try with_reducible rfl)
          simp only [pa]
          refine tkA 6 22 (v := ?_) rfl (by kernel_rfl) (fun _ _ _ h => h) (by rfl) ?_ (by assumption) ?_; rotate_left; · (intro w hSw; (try dsimp only at hSw); go_simp; try with_reducible rfl)
          simp only [pa]
          refine tkA 7 23 (v := ?_) rfl (by kernel_rfl) (fun _ _ _ h => h) (by rfl) ?_ (by assumption) ?_; rotate_left; · (intro w hSw; (try dsimp only at hSw); go_simp; try with_reducible rfl)
          simp only [pa]
          refine tkA 8 24 (v := ?_) rfl (by kernel_rfl) (fun _ _ _ h => h) (by rfl) ?_ (by assumption) ?_; rotate_left; · (intro w hSw; (try dsimp only at hSw); go_simp; try with_reducible rfl)
          simp only [pa]
          have HE := hidP (hHeld.2.2.2.2.2.2.2.2.2.2.2.2)
          refine wpAnyH_done (by kernel_rfl) ?_ _
          clear hHeld
          go_wp2_with fail
          go_roundw
          case rel => exact ⟨k + 1, by omega, by go_num, by rw [HPo.out]; rfl, HBel.out.trans (HE.out.mono HBel.out.size)⟩
          case measure => simp [intOf]; omega
      · have HT : Hid (eqlB eqLsB xs ys = true) := hidP (by rw [hpo, eqlB_end (by have := HN.out; omega) (by have := HM.out; omega)])
        clear hbel hpo
        go_wp2_with fail
        go_ret
        exact ⟨ret_b HT.out.symm, HBel.out⟩
  · have HF : Hid (eqlB eqLsB xs ys = false) := hidP (eqlB_len (by rw [← hn, ← hm]; exact hnm))
    have e1 : ¬ ((n : Int) = (m : Int)) := by omega
    have e2 : ((n : Int) != (m : Int)) = true := by simpa using e1
    clear hn hm h1 h2
    go_enter Try.func31, Try.ntmps31
    go_wp2_with fail
    go_ret
    exact ⟨ret_b HF.out.symm, Below.refl _ _⟩

set_option maxRecDepth 10000 in
set_option maxHeartbeats 2000000 in
theorem eqSlSs_any (a b : Option Addr) (n ca m cb : Nat) (xs ys : List Ss) (w : World) (hn : n = xs.length) (hm : m = ys.length) (h1 : RowG KSs w a xs) (h2 : RowG KSs w b ys) (hl : n ≤ 1048576) (hl' : m ≤ 1048576) :
    Calls Try.prog 32 #[.slice a n ca, .slice b m cb] w fun e w' => e = .returned (.bool (eqlB eqSsB xs ys)) ∧ Below w.heap.size w w' := by
  have HR := hidP h1
  have HQ := hidP h2
  by_cases hnm : n = m
  · subst hnm
    have HN := hidP hn
    have HM := hidP hm
    clear hn hm h1 h2
    go_enter Try.func32, Try.ntmps32
    go_wp2_with fail
    go_loopw [13] (fun t13 wr => ∃ k : Nat, k ≤ n ∧ t13 = .int .i64 k ∧ eqlB eqSsB xs ys = eqlB eqSsB (xs.drop k) (ys.drop k) ∧ Below w.heap.size w wr) (fun t13 _ => n - (intOf t13).toNat)
    case atStart => exact ⟨0, Nat.zero_le _, rfl, rfl, Below.refl _ _⟩
    case round =>
      obtain ⟨k, hk, rfl, hpo, hbel⟩ := hrel
      have HBel := hidP hbel
      by_cases hlt : k < n
      · obtain ⟨p, o, q, rfl, hp, hq, c0, c1, c2, c3⟩ := rowSs HR.out k (by have := HN.out; omega)
        obtain ⟨p', o', q', rfl, hp', hq', e0, e1, e2, e3⟩ := rowSs HQ.out k (by have := HM.out; omega)
        have d0 := (hbel.cell hp).trans c0
        have g0 := (hbel.cell hp').trans e0
        have d1 := (hbel.cell hp).trans c1
        have g1 := (hbel.cell hp').trans e1
        have d2 := (hbel.cell hp).trans c2
        have g2 := (hbel.cell hp').trans e2
        have d3 := (hbel.cell hp).trans c3
        have g3 := (hbel.cell hp').trans e3
        have hpw : p < wr.heap.size := Nat.lt_of_lt_of_le hp hbel.size
        have hpw' : p' < wr.heap.size := Nat.lt_of_lt_of_le hp' hbel.size
        have k0 : (0 : Int) ≤ (k : Int) := by omega
        have k1 : (k : Int) < (n : Int) := by omega
        rw [eqlB_at hq hq'] at hpo
        have HPo := hidP hpo
        have hE := fun wx => eqSs_run q q' wx
        generalize eqSsB q q' = r at *
        clear hpo hq hq' c0 e0 c1 e1 c2 e2 c3 e3
        clear hbel
        go_upto_region 6 with fail
        cases r
        · have HSx : Hid (∀ x, Below wr.heap.size wr x → (x.cell? ⟨p, o + k * 4, none⟩ = some (.int .i64 q.i) ∧ x.cell? ⟨p, o + k * 4 + 1, none⟩ = some (.int .i64 q.l) ∧ x.cell? ⟨p, o + k * 4 + 2, none⟩ = some (.string q.t) ∧ x.cell? ⟨p, o + k * 4 + 3, none⟩ = some (.int .i64 q.u) ∧ x.cell? ⟨p', o' + k * 4, none⟩ = some (.int .i64 q'.i) ∧ x.cell? ⟨p', o' + k * 4 + 1, none⟩ = some (.int .i64 q'.l) ∧ x.cell? ⟨p', o' + k * 4 + 2, none⟩ = some (.string q'.t) ∧ x.cell? ⟨p', o' + k * 4 + 3, none⟩ = some (.int .i64 q'.u) ∧ Below wr.heap.size wr x)) := hidP fun x h =>
            ⟨(h.cell hpw).trans d0, (h.cell hpw).trans d1, (h.cell hpw).trans d2, (h.cell hpw).trans d3, (h.cell hpw').trans g0, (h.cell hpw').trans g1, (h.cell hpw').trans g2, (h.cell hpw').trans g3, h⟩
          refine wp_region_held_drew (S := (fun x => x.cell? ⟨p, o + k * 4, none⟩ = some (.int .i64 q.i) ∧ x.cell? ⟨p, o + k * 4 + 1, none⟩ = some (.int .i64 q.l) ∧ x.cell? ⟨p, o + k * 4 + 2, none⟩ = some (.string q.t) ∧ x.cell? ⟨p, o + k * 4 + 3, none⟩ = some (.int .i64 q.u) ∧ x.cell? ⟨p', o' + k * 4, none⟩ = some (.int .i64 q'.i) ∧ x.cell? ⟨p', o' + k * 4 + 1, none⟩ = some (.int .i64 q'.l) ∧ x.cell? ⟨p', o' + k * 4 + 2, none⟩ = some (.string q'.t) ∧ x.cell? ⟨p', o' + k * 4 + 3, none⟩ = some (.int .i64 q'.u) ∧ Below wr.heap.size wr x)) (by kernel_rfl) ?_ (fun hHeld => ?_)
          · try dsimp only
            exact HSx.out _ ((Below.refl _ _).drew)
          refine tkA 0 16 (v := ?_) rfl (by kernel_rfl) (fun _ _ _ h => h) (by rfl) ?_ (by assumption) ?_; rotate_left; · (intro w hSw; (try dsimp only at hSw); go_simp; try with_reducible rfl)
          simp only [pa]
          refine tkA 1 17 (v := ?_) rfl (by kernel_rfl) (fun _ _ _ h => h) (by rfl) ?_ (by assumption) ?_; rotate_left; · (intro w hSw; (try dsimp only at hSw); go_simp; try with_reducible rfl)
          simp only [pa]
          refine tkA 2 18 (v := ?_) rfl (by kernel_rfl) (fun _ _ _ h => h) (by rfl) ?_ (by assumption) ?_; rotate_left; · (intro w hSw; (try dsimp only at hSw); go_simp; try with_reducible rfl)
          simp only [pa]
          refine tkA 3 19 (v := ?_) rfl (by kernel_rfl) (fun _ _ _ h => h) (by rfl) ?_ (by assumption) ?_; rotate_left; · (intro w hSw; (try dsimp only at hSw); go_simp; try with_reducible rfl)
          simp only [pa]
          refine tkA 4 20 (v := ?_) rfl (by kernel_rfl) (fun _ _ _ h => h) (by rfl) ?_ (by assumption) ?_; rotate_left; · (intro w hSw; (try dsimp only at hSw); go_simp; try with_reducible rfl)
          simp only [pa]
          refine tkA 5 21 (v := ?_) rfl (by kernel_rfl) (fun _ _ _ h => h) (by rfl) ?_ (by assumption) ?_; rotate_left; · (intro w hSw; (try dsimp only at hSw); go_simp; try with_reducible rfl)
          simp only [pa]
          refine tkA 6 22 (v := ?_) rfl (by kernel_rfl) (fun _ _ _ h => h) (by rfl) ?_ (by assumption) ?_; rotate_left; · (intro w hSw; (try dsimp only at hSw); go_simp; try with_reducible rfl)
          simp only [pa]
          refine tkA 7 23 (v := ?_) rfl (by kernel_rfl) (fun _ _ _ h => h) (by rfl) ?_ (by assumption) ?_; rotate_left; · (intro w hSw; (try dsimp only at hSw); go_simp; try with_reducible rfl)
          simp only [pa]
          refine tkA 8 24 (v := ?_) rfl (by kernel_rfl) (fun _ _ _ h => h) (by rfl) ?_ (by assumption) ?_; rotate_left; · (intro w hSw; (try dsimp only at hSw); go_simp; try with_reducible rfl)
          simp only [pa]
          have HE := hidP (hHeld.2.2.2.2.2.2.2.2)
          refine wpAnyH_done (by kernel_rfl) ?_ _
          clear hHeld
          go_wp2_with fail
          go_ret
          exact ⟨ret_b (by rw [HPo.out]; rfl), HBel.out.trans (HE.out.mono HBel.out.size)⟩
        · have HSx : Hid (∀ x, Below wr.heap.size wr x → (x.cell? ⟨p, o + k * 4, none⟩ = some (.int .i64 q.i) ∧ x.cell? ⟨p, o + k * 4 + 1, none⟩ = some (.int .i64 q.l) ∧ x.cell? ⟨p, o + k * 4 + 2, none⟩ = some (.string q.t) ∧ x.cell? ⟨p, o + k * 4 + 3, none⟩ = some (.int .i64 q.u) ∧ x.cell? ⟨p', o' + k * 4, none⟩ = some (.int .i64 q'.i) ∧ x.cell? ⟨p', o' + k * 4 + 1, none⟩ = some (.int .i64 q'.l) ∧ x.cell? ⟨p', o' + k * 4 + 2, none⟩ = some (.string q'.t) ∧ x.cell? ⟨p', o' + k * 4 + 3, none⟩ = some (.int .i64 q'.u) ∧ Below wr.heap.size wr x)) := hidP fun x h =>
            ⟨(h.cell hpw).trans d0, (h.cell hpw).trans d1, (h.cell hpw).trans d2, (h.cell hpw).trans d3, (h.cell hpw').trans g0, (h.cell hpw').trans g1, (h.cell hpw').trans g2, (h.cell hpw').trans g3, h⟩
          refine wp_region_held_drew (S := (fun x => x.cell? ⟨p, o + k * 4, none⟩ = some (.int .i64 q.i) ∧ x.cell? ⟨p, o + k * 4 + 1, none⟩ = some (.int .i64 q.l) ∧ x.cell? ⟨p, o + k * 4 + 2, none⟩ = some (.string q.t) ∧ x.cell? ⟨p, o + k * 4 + 3, none⟩ = some (.int .i64 q.u) ∧ x.cell? ⟨p', o' + k * 4, none⟩ = some (.int .i64 q'.i) ∧ x.cell? ⟨p', o' + k * 4 + 1, none⟩ = some (.int .i64 q'.l) ∧ x.cell? ⟨p', o' + k * 4 + 2, none⟩ = some (.string q'.t) ∧ x.cell? ⟨p', o' + k * 4 + 3, none⟩ = some (.int .i64 q'.u) ∧ Below wr.heap.size wr x)) (by kernel_rfl) ?_ (fun hHeld => ?_)
          · try dsimp only
            exact HSx.out _ ((Below.refl _ _).drew)
          refine tkA 0 16 (v := ?_) rfl (by kernel_rfl) (fun _ _ _ h => h) (by rfl) ?_ (by assumption) ?_; rotate_left; · (intro w hSw; (try dsimp only at hSw); go_simp; try with_reducible rfl)
          simp only [pa]
          refine tkA 1 17 (v := ?_) rfl (by kernel_rfl) (fun _ _ _ h => h) (by rfl) ?_ (by assumption) ?_; rotate_left; · (intro w hSw; (try dsimp only at hSw); go_simp; try with_reducible rfl)
          simp only [pa]
          refine tkA 2 18 (v := ?_) rfl (by kernel_rfl) (fun _ _ _ h => h) (by rfl) ?_ (by assumption) ?_; rotate_left; · (intro w hSw; (try dsimp only at hSw); go_simp; try with_reducible rfl)
          simp only [pa]
          refine tkA 3 19 (v := ?_) rfl (by kernel_rfl) (fun _ _ _ h => h) (by rfl) ?_ (by assumption) ?_; rotate_left; · (intro w hSw; (try dsimp only at hSw); go_simp; try with_reducible rfl)
          simp only [pa]
          refine tkA 4 20 (v := ?_) rfl (by kernel_rfl) (fun _ _ _ h => h) (by rfl) ?_ (by assumption) ?_; rotate_left; · (intro w hSw; (try dsimp only at hSw); go_simp; try with_reducible rfl)
          simp only [pa]
          refine tkA 5 21 (v := ?_) rfl (by kernel_rfl) (fun _ _ _ h => h) (by rfl) ?_ (by assumption) ?_; rotate_left; · (intro w hSw; (try dsimp only at hSw); go_simp; try with_reducible rfl)
          simp only [pa]
          refine tkA 6 22 (v := ?_) rfl (by kernel_rfl) (fun _ _ _ h => h) (by rfl) ?_ (by assumption) ?_; rotate_left; · (intro w hSw; (try dsimp only at hSw); go_simp; try with_reducible rfl)
          simp only [pa]
          refine tkA 7 23 (v := ?_) rfl (by kernel_rfl) (fun _ _ _ h => h) (by rfl) ?_ (by assumption) ?_; rotate_left; · (intro w hSw; (try dsimp only at hSw); go_simp; try with_reducible rfl)
          simp only [pa]
          refine tkA 8 24 (v := ?_) rfl (by kernel_rfl) (fun _ _ _ h => h) (by rfl) ?_ (by assumption) ?_; rotate_left; · (intro w hSw; (try dsimp only at hSw); go_simp; try with_reducible rfl)
          simp only [pa]
          have HE := hidP (hHeld.2.2.2.2.2.2.2.2)
          refine wpAnyH_done (by kernel_rfl) ?_ _
          clear hHeld
          go_wp2_with fail
          go_roundw
          case rel => exact ⟨k + 1, by omega, by go_num, by rw [HPo.out]; rfl, HBel.out.trans (HE.out.mono HBel.out.size)⟩
          case measure => simp [intOf]; omega
      · have HT : Hid (eqlB eqSsB xs ys = true) := hidP (by rw [hpo, eqlB_end (by have := HN.out; omega) (by have := HM.out; omega)])
        clear hbel hpo
        go_wp2_with fail
        go_ret
        exact ⟨ret_b HT.out.symm, HBel.out⟩
  · have HF : Hid (eqlB eqSsB xs ys = false) := hidP (eqlB_len (by rw [← hn, ← hm]; exact hnm))
    have e1 : ¬ ((n : Int) = (m : Int)) := by omega
    have e2 : ((n : Int) != (m : Int)) = true := by simpa using e1
    clear hn hm h1 h2
    go_enter Try.func32, Try.ntmps32
    go_wp2_with fail
    go_ret
    exact ⟨ret_b HF.out.symm, Below.refl _ _⟩

end Go.Proofs.Ytngcbhbcocnbeaa
namespace Go.Proofs.Ytngcbhbcocnbeaa
open Go.ChangeShapes Go.WideShapes Go.ChangeAt Go.RowKit Go.Joins Go.Deep

/-- How many bytes the owners have. -/
def sumL : List Ls → Nat
  | [] => 0
  | q :: t => q.t.size + sumL t
theorem sumL_app : ∀ xs ys : List Ls, sumL (xs ++ ys) = sumL xs + sumL ys
  | [], ys => by simp [sumL]
  | q :: t, ys => by simp [sumL, sumL_app t ys]; omega
theorem sumL_next {bs : List Ls} {k : Nat} {q : Ls} (h : bs[k]? = some q) : sumL (bs.take (k + 1)) = sumL (bs.take k) + q.t.size := by
  rw [List.take_add_one, h, sumL_app]; simp [sumL]
theorem sumL_le (bs : List Ls) (k : Nat) : sumL (bs.take k) ≤ sumL bs := by
  conv => rhs; rw [← List.take_append_drop k bs, sumL_app]
  omega


set_option maxHeartbeats 400000 in
theorem szLease_any (q : Ls) (l : Int) (h0 : 0 ≤ l) (h1 : l ≤ 1048576) (h9 : q.t.size ≤ 9223372036854775807) (w : World) :
    Calls Try.prog 38 #[.agg #[.bool q.a.s, .int .i64 q.a.H.toInt, .int .i64 q.a.L.toInt, .string q.t, .int .i64 q.k, .int .i64 q.u], .int .i64 l] w fun e w' => e = .returned (.int .i64 (szO l q.t.size)) ∧ Below w.heap.size w w' := by
  by_cases hd : l - (q.t.size : Int) < 0
  · rw [szO_yes hd]
    go_enter Try.func38, Try.ntmps38
    go_wp2
    go_ret
    exact ⟨rfl, (Below.refl _ _).alloc (Nat.le_refl _) _⟩
  · rw [szO_no hd]
    have hd2 : decide (l - (q.t.size : Int) < 0) = false := decide_eq_false hd
    go_enter Try.func38, Try.ntmps38
    go_wp2
    go_ret
    exact ⟨rfl, (Below.refl _ _).alloc (Nat.le_refl _) _⟩

set_option maxHeartbeats 1000000 in
theorem szLeaseS_any (a : Option Addr) (n cap : Nat) (bs : List Ls) (l : Int) (h0 : 0 ≤ l) (h1 : l ≤ 1048576) (w : World) (hn : n = bs.length) (hB : RowG KLs w a bs) (h9 : n ≤ 9223372036854775807) (hst : ∀ q ∈ bs, q.t.size ≤ 9223372036854775807) :
    Calls Try.prog 23 #[.slice a n cap, .int .i64 l] w fun e w' => e = .returned (.int .i64 (szB n (sumL bs) l)) ∧ Below w.heap.size w w' := by
  have HB := hidP hB
  have HN := hidP hn
  have HST := hidP hst
  clear hB hn hst
  by_cases hnl : l < (n : Int)
  · rw [szB_no (by omega)]
    have d1 : decide (l - (n : Int) < 0) = true := decide_eq_true (by omega)
    go_enter Try.func23, Try.ntmps23
    go_wp2
    go_ret
    exact ⟨rfl, Below.refl _ _⟩
  · have d1 : decide (l - (n : Int) < 0) = false := decide_eq_false (by omega)
    have d2 : ¬ (l - (n : Int) < 0) := by omega
    go_enter Try.func23, Try.ntmps23
    go_wp2_with fail
    go_loopw [1, 5] (fun t1 t5 wr => ∃ (k : Nat) (z : Int), k ≤ n ∧ t5 = .int .i64 k ∧ t1 = .int .i64 z ∧ z = l - n - sumL (bs.take k) ∧ 0 ≤ z ∧ Below w.heap.size w wr) (fun _ t5 _ => n - (intOf t5).toNat)
    case atStart => exact ⟨0, l - n, Nat.zero_le _, rfl, rfl, by simp [sumL], by omega, Below.refl _ _⟩
    case round =>
      obtain ⟨k, z, hk, rfl, rfl, hz, hz0, hbel⟩ := hrel
      by_cases hlt : k < n
      · obtain ⟨p, o, q, rfl, hp, hq, c0, c1, c2, c3, c4, c5⟩ := rowLs HB.out k (by rw [← HN.out]; exact hlt)
        have d0 := (hbel.cell hp).trans c0
        have d1 := (hbel.cell hp).trans c1
        have d2 := (hbel.cell hp).trans c2
        have d3 := (hbel.cell hp).trans c3
        have d4 := (hbel.cell hp).trans c4
        have d5 := (hbel.cell hp).trans c5
        have HBel := hidP hbel
        have HNx := hidP (sumL_next hq)
        have HLe := hidP (sumL_le bs (k + 1))
        have hz1 : z ≤ 1048576 := by omega
        have HZ := hidP hz
        have HS := hidP (szLease_any q z hz0 hz1 (HST.out q (List.mem_of_getElem? hq)))
        clear c0 c1 c2 c3 c4 c5 hq hbel hz
        by_cases hd : z - (q.t.size : Int) < 0
        · rw [szO_yes hd] at HS
          have HF : Hid (¬ ((n : Int) + (sumL bs : Int) ≤ l)) := hidP (by have := HZ.out; have := HNx.out; have := HLe.out; omega)
          go_wp2_with fail
          refine (HS.out _).mono ?_
          rintro e w2 ⟨rfl, hb2⟩
          have HB2 := hidP (HBel.out.trans (hb2.mono HBel.out.size))
          clear hb2 HBel d0 d1 d2 d3 d4 d5
          go_wp2_with fail
          go_ret
          exact ⟨ret_i (szB_no (by have := HF.out; omega)).symm, HB2.out⟩
        · rw [szO_no hd] at HS
          have hd2 : decide (z - (q.t.size : Int) < 0) = false := decide_eq_false hd
          go_wp2_with fail
          refine (HS.out _).mono ?_
          rintro e w2 ⟨rfl, hb2⟩
          have HB2 := hidP (HBel.out.trans (hb2.mono HBel.out.size))
          clear hb2 HBel d0 d1 d2 d3 d4 d5
          go_wp2_with fail
          go_roundw
          case rel => exact ⟨k + 1, z - (q.t.size : Int), by omega, by go_num, rfl, by have := HZ.out; have := HNx.out; omega, by omega, HB2.out⟩
          case measure => simp [intOf]; omega
      · have hkn : k = n := by omega
        have HF : Hid ((n : Int) + (sumL bs : Int) ≤ l ∧ z = l - n - sumL bs) := by
          rw [List.take_of_length_le (by have := HN.out; omega)] at hz
          exact hidP ⟨by omega, hz⟩
        have HBel := hidP hbel
        clear hbel hz
        go_wp2_with fail
        go_ret
        exact ⟨ret_i (by rw [szB_yes HF.out.1, ← HF.out.2]), HBel.out⟩


/-- How much of a law's room a book takes. -/
def totB (ls : List Ls) : Int := ls.length + sumL ls
set_option maxHeartbeats 1000000 in
theorem szBook_at (a : Option Addr) (n c : Nat) (T N : Int) (ls : List Ls) (l : Int) (h0 : 0 ≤ l) (h1 : l ≤ 1048576) (w : World) (hn : n = ls.length) (hP : RowG KLs w a ls) (h9 : n ≤ 9223372036854775807) (hst : ∀ q ∈ ls, q.t.size ≤ 9223372036854775807) :
    Calls Try.prog 10 #[.agg #[.slice a n c, .int .i64 T, .int .i64 N], .int .i64 l] w fun e w' => e = .returned (.int .i64 (szB ls.length (sumL ls) l)) ∧ Below w.heap.size w w' := by
  rw [← hn]
  have HS := hidP (fun W h => szLeaseS_any a n c ls l h0 h1 W hn (hP.later h) h9 hst)
  clear hP hn hst
  by_cases ht : (n : Int) + (sumL ls : Int) ≤ l
  · rw [szB_yes ht] at HS
    rw [szB_yes ht]
    have hz2 : decide (l - (n : Int) - (sumL ls : Int) < 0) = false := decide_eq_false (by omega)
    generalize he : (l - (n : Int) - (sumL ls : Int)) = z at *
    have hz3 : ¬ z < 0 := by omega
    have HE := hidP he
    clear he
    go_enter Try.func10, Try.ntmps10
    go_wp2_with fail
    refine (HS.out _ (alloc_below w _)).mono ?_
    rintro e w2 ⟨rfl, hb2⟩
    have HB2 := hidP hb2
    clear hb2
    go_wp2_with fail
    go_ret
    exact ⟨ret_i (by have := HE.out; omega), (alloc_below w _).trans (HB2.out.mono (alloc_below w _).size)⟩
  · rw [szB_no ht] at HS
    rw [szB_no ht]
    go_enter Try.func10, Try.ntmps10
    go_wp2_with fail
    refine (HS.out _ (alloc_below w _)).mono ?_
    rintro e w2 ⟨rfl, hb2⟩
    have HB2 := hidP hb2
    clear hb2
    go_wp2_with fail
    go_ret
    exact ⟨rfl, (alloc_below w _).trans (HB2.out.mono (alloc_below w _).size)⟩

set_option maxHeartbeats 1000000 in
theorem toBook_any (a : Option Addr) (n c : Nat) (T N : Int) (ls : List Ls) (w : World) (hn : n = ls.length) (hP : RowG KLs w a ls) (hl : n ≤ 1048576) :
    Calls Try.prog 13 #[.agg #[.slice a n c, .int .i64 T, .int .i64 N]] w fun e w' => ∃ g, e = .returned (.agg #[.slice (some ⟨g, 0, none⟩) n n, .int .i64 T, .int .i64 N]) ∧ OwnG KLs 62 w' w.heap.size (.slice (some ⟨g, 0, none⟩) n n) ls ∧ Below w.heap.size w w' := by
  have HTP := hidP (fun W h => toLeaseS_any a n c ls W hn (hP.later h) hl)
  clear hP hn
  go_enter Try.func13, Try.ntmps13
  go_wp2_with fail
  refine (HTP.out _ ?_).mono ?_
  · repeat (first | with_reducible exact Below.refl _ _ | (with_reducible refine Below.drew ?_) | (with_reducible refine Below.alloc ?_ ?_ _; rotate_left; (focus (first | omega | (simp; omega) | (simp; done)))) | (with_reducible refine Below.setCell ?_ ?_ _; rotate_left; (focus (first | omega | (simp; omega) | (simp; done)))))
  rintro e w1 ⟨g, rfl, og, hb1⟩
  have hz1 := hb1.size
  try simp at hz1
  have hgl := OwnG.lt og g rfl
  try simp at hgl
  have f10 : w.heap.size < w1.heap.size := by omega
  have f11 : w.heap.size + 1 < w1.heap.size := by omega
  have f12 : w.heap.size + 2 < w1.heap.size := by omega
  refine olds_k (w.heap.size + 3) hb1 ?_ ?_
  · first | omega | (simp; omega) | (simp; done)
  intro hc1 hf1
  have OG := hidP og
  clear og
  go_wp2_with fail
  refine bodyPost_ret (v := .agg #[.slice (some ⟨g, 0, none⟩) n n, .int .i64 T, .int .i64 N]) (by simp [results, Try.results13, go_sem, hc1]) rfl ⟨g, rfl, ?_, ?_⟩
  · have ne : ∀ x : Nat, x < w.heap.size + 3 → ∀ k, (Value.slice (some ⟨g, 0, none⟩) n n).ownBlock = some k → some x ≠ some k := fun x hx k hk e => by simp [Value.ownBlock] at hk e; omega
    refine OwnG.mono (B := w.heap.size + 3) ?_ (by omega)
    iterate 6 (with_reducible refine OwnG.grown ?_ (grown_cellG _ _ _ _) ?_; rotate_left; (focus (exact ne _ (by omega))))
    with_reducible exact OG.out.mono (by first | (simp; done) | (simp; omega))
  · repeat (first | with_reducible exact Below.refl _ _ | (with_reducible refine Below.drew ?_) | (with_reducible refine Below.alloc ?_ ?_ _; rotate_left; (focus (first | omega | (simp; omega) | (simp; done)))) | (with_reducible refine Below.setCell ?_ ?_ _; rotate_left; (focus (first | omega | (simp; omega) | (simp; done)))) | (with_reducible refine Below.trans ?_ (hb1.mono ?_); rotate_left; (focus (first | omega | (simp; omega) | (simp; done)))))

set_option maxHeartbeats 1000000 in
theorem eqBook_same (a a' : Option Addr) (n c c' : Nat) (T N : Int) (ls : List Ls) (w : World) (hn : n = ls.length) (hP : RowG KLs w a ls) (hP' : RowG KLs w a' ls) (hl : n ≤ 9000000000) :
    Calls Try.prog 19 #[.agg #[.slice a n c, .int .i64 T, .int .i64 N], .agg #[.slice a' n c', .int .i64 T, .int .i64 N]] w fun e w' => e = .returned (.bool true) ∧ Below w.heap.size w w' := by
  have HTP := hidP (fun W h => eqLeaseS_same a a' n c c' ls W hn (hP.later h) (hP'.later h) hl)
  clear hP hP' hn
  go_enter Try.func19, Try.ntmps19
  go_wp2_with fail
  refine (HTP.out _ ?_).mono ?_
  · repeat (first | with_reducible exact Below.refl _ _ | (with_reducible refine Below.drew ?_) | (with_reducible refine Below.alloc ?_ ?_ _; rotate_left; (focus (first | omega | (simp; omega) | (simp; done)))) | (with_reducible refine Below.setCell ?_ ?_ _; rotate_left; (focus (first | omega | (simp; omega) | (simp; done)))))
  rintro e w1 ⟨rfl, hb1⟩
  have hz1 := hb1.size
  try simp at hz1
  have f10 : w.heap.size < w1.heap.size := by omega
  have f11 : w.heap.size + 1 < w1.heap.size := by omega
  refine olds_k (w.heap.size + 2) hb1 ?_ ?_
  · first | omega | (simp; omega) | (simp; done)
  intro hc1 hf1
  go_wp2_with fail
  go_ret
  refine ⟨rfl, ?_⟩
  repeat (first | with_reducible exact Below.refl _ _ | (with_reducible refine Below.drew ?_) | (with_reducible refine Below.alloc ?_ ?_ _; rotate_left; (focus (first | omega | (simp; omega) | (simp; done)))) | (with_reducible refine Below.setCell ?_ ?_ _; rotate_left; (focus (first | omega | (simp; omega) | (simp; done)))) | (with_reducible refine Below.trans ?_ (hb1.mono ?_); rotate_left; (focus (first | omega | (simp; omega) | (simp; done)))))

end Go.Proofs.Ytngcbhbcocnbeaa
namespace Go.Proofs.Ytngcbhbcocnbeaa
open Go.ChangeShapes Go.WideShapes Go.ChangeAt Go.RowKit Go.Joins Go.Deep

/-- How many bytes the replies have. -/
def sumS : List Ss → Nat
  | [] => 0
  | q :: t => q.t.size + sumS t
theorem sumS_app : ∀ xs ys : List Ss, sumS (xs ++ ys) = sumS xs + sumS ys
  | [], ys => by simp [sumS]
  | q :: t, ys => by simp [sumS, sumS_app t ys]; omega
theorem sumS_next {bs : List Ss} {k : Nat} {q : Ss} (h : bs[k]? = some q) : sumS (bs.take (k + 1)) = sumS (bs.take k) + q.t.size := by
  rw [List.take_add_one, h, sumS_app]; simp [sumS]
theorem sumS_le (bs : List Ss) (k : Nat) : sumS (bs.take k) ≤ sumS bs := by
  conv => rhs; rw [← List.take_append_drop k bs, sumS_app]
  omega


set_option maxHeartbeats 400000 in
theorem szSession_any (q : Ss) (l : Int) (h0 : 0 ≤ l) (h1 : l ≤ 1048576) (h9 : q.t.size ≤ 9223372036854775807) (w : World) :
    Calls Try.prog 39 #[.agg #[.int .i64 q.i, .int .i64 q.l, .string q.t, .int .i64 q.u], .int .i64 l] w fun e w' => e = .returned (.int .i64 (szO l q.t.size)) ∧ Below w.heap.size w w' := by
  by_cases hd : l - (q.t.size : Int) < 0
  · rw [szO_yes hd]
    go_enter Try.func39, Try.ntmps39
    go_wp2
    go_ret
    exact ⟨rfl, (Below.refl _ _).alloc (Nat.le_refl _) _⟩
  · rw [szO_no hd]
    have hd2 : decide (l - (q.t.size : Int) < 0) = false := decide_eq_false hd
    go_enter Try.func39, Try.ntmps39
    go_wp2
    go_ret
    exact ⟨rfl, (Below.refl _ _).alloc (Nat.le_refl _) _⟩

set_option maxHeartbeats 1000000 in
theorem szSessionS_any (a : Option Addr) (n cap : Nat) (bs : List Ss) (l : Int) (h0 : 0 ≤ l) (h1 : l ≤ 1048576) (w : World) (hn : n = bs.length) (hB : RowG KSs w a bs) (h9 : n ≤ 9223372036854775807) (hst : ∀ q ∈ bs, q.t.size ≤ 9223372036854775807) :
    Calls Try.prog 24 #[.slice a n cap, .int .i64 l] w fun e w' => e = .returned (.int .i64 (szB n (sumS bs) l)) ∧ Below w.heap.size w w' := by
  have HB := hidP hB
  have HN := hidP hn
  have HST := hidP hst
  clear hB hn hst
  by_cases hnl : l < (n : Int)
  · rw [szB_no (by omega)]
    have d1 : decide (l - (n : Int) < 0) = true := decide_eq_true (by omega)
    go_enter Try.func24, Try.ntmps24
    go_wp2
    go_ret
    exact ⟨rfl, Below.refl _ _⟩
  · have d1 : decide (l - (n : Int) < 0) = false := decide_eq_false (by omega)
    have d2 : ¬ (l - (n : Int) < 0) := by omega
    go_enter Try.func24, Try.ntmps24
    go_wp2_with fail
    go_loopw [1, 5] (fun t1 t5 wr => ∃ (k : Nat) (z : Int), k ≤ n ∧ t5 = .int .i64 k ∧ t1 = .int .i64 z ∧ z = l - n - sumS (bs.take k) ∧ 0 ≤ z ∧ Below w.heap.size w wr) (fun _ t5 _ => n - (intOf t5).toNat)
    case atStart => exact ⟨0, l - n, Nat.zero_le _, rfl, rfl, by simp [sumS], by omega, Below.refl _ _⟩
    case round =>
      obtain ⟨k, z, hk, rfl, rfl, hz, hz0, hbel⟩ := hrel
      by_cases hlt : k < n
      · obtain ⟨p, o, q, rfl, hp, hq, c0, c1, c2, c3⟩ := rowSs HB.out k (by rw [← HN.out]; exact hlt)
        have d0 := (hbel.cell hp).trans c0
        have d1 := (hbel.cell hp).trans c1
        have d2 := (hbel.cell hp).trans c2
        have d3 := (hbel.cell hp).trans c3
        have HBel := hidP hbel
        have HNx := hidP (sumS_next hq)
        have HLe := hidP (sumS_le bs (k + 1))
        have hz1 : z ≤ 1048576 := by omega
        have HZ := hidP hz
        have HS := hidP (szSession_any q z hz0 hz1 (HST.out q (List.mem_of_getElem? hq)))
        clear c0 c1 c2 c3 hq hbel hz
        by_cases hd : z - (q.t.size : Int) < 0
        · rw [szO_yes hd] at HS
          have HF : Hid (¬ ((n : Int) + (sumS bs : Int) ≤ l)) := hidP (by have := HZ.out; have := HNx.out; have := HLe.out; omega)
          go_wp2_with fail
          refine (HS.out _).mono ?_
          rintro e w2 ⟨rfl, hb2⟩
          have HB2 := hidP (HBel.out.trans (hb2.mono HBel.out.size))
          clear hb2 HBel d0 d1 d2 d3
          go_wp2_with fail
          go_ret
          exact ⟨ret_i (szB_no (by have := HF.out; omega)).symm, HB2.out⟩
        · rw [szO_no hd] at HS
          have hd2 : decide (z - (q.t.size : Int) < 0) = false := decide_eq_false hd
          go_wp2_with fail
          refine (HS.out _).mono ?_
          rintro e w2 ⟨rfl, hb2⟩
          have HB2 := hidP (HBel.out.trans (hb2.mono HBel.out.size))
          clear hb2 HBel d0 d1 d2 d3
          go_wp2_with fail
          go_roundw
          case rel => exact ⟨k + 1, z - (q.t.size : Int), by omega, by go_num, rfl, by have := HZ.out; have := HNx.out; omega, by omega, HB2.out⟩
          case measure => simp [intOf]; omega
      · have hkn : k = n := by omega
        have HF : Hid ((n : Int) + (sumS bs : Int) ≤ l ∧ z = l - n - sumS bs) := by
          rw [List.take_of_length_le (by have := HN.out; omega)] at hz
          exact hidP ⟨by omega, hz⟩
        have HBel := hidP hbel
        clear hbel hz
        go_wp2_with fail
        go_ret
        exact ⟨ret_i (by rw [szB_yes HF.out.1, ← HF.out.2]), HBel.out⟩


/-- How much of a law's room a desk takes. -/
def totD (ls : List Ss) : Int := ls.length + sumS ls
set_option maxHeartbeats 1000000 in
theorem szDesk_at (a : Option Addr) (n c : Nat) (N : Int) (ls : List Ss) (l : Int) (h0 : 0 ≤ l) (h1 : l ≤ 1048576) (w : World) (hn : n = ls.length) (hP : RowG KSs w a ls) (h9 : n ≤ 9223372036854775807) (hst : ∀ q ∈ ls, q.t.size ≤ 9223372036854775807) :
    Calls Try.prog 11 #[.agg #[.slice a n c, .int .i64 N], .int .i64 l] w fun e w' => e = .returned (.int .i64 (szB ls.length (sumS ls) l)) ∧ Below w.heap.size w w' := by
  rw [← hn]
  have HS := hidP (fun W h => szSessionS_any a n c ls l h0 h1 W hn (hP.later h) h9 hst)
  clear hP hn hst
  by_cases ht : (n : Int) + (sumS ls : Int) ≤ l
  · rw [szB_yes ht] at HS
    rw [szB_yes ht]
    have hz2 : decide (l - (n : Int) - (sumS ls : Int) < 0) = false := decide_eq_false (by omega)
    generalize he : (l - (n : Int) - (sumS ls : Int)) = z at *
    have hz3 : ¬ z < 0 := by omega
    have HE := hidP he
    clear he
    go_enter Try.func11, Try.ntmps11
    go_wp2_with fail
    refine (HS.out _ (alloc_below w _)).mono ?_
    rintro e w2 ⟨rfl, hb2⟩
    have HB2 := hidP hb2
    clear hb2
    go_wp2_with fail
    go_ret
    exact ⟨ret_i (by have := HE.out; omega), (alloc_below w _).trans (HB2.out.mono (alloc_below w _).size)⟩
  · rw [szB_no ht] at HS
    rw [szB_no ht]
    go_enter Try.func11, Try.ntmps11
    go_wp2_with fail
    refine (HS.out _ (alloc_below w _)).mono ?_
    rintro e w2 ⟨rfl, hb2⟩
    have HB2 := hidP hb2
    clear hb2
    go_wp2_with fail
    go_ret
    exact ⟨rfl, (alloc_below w _).trans (HB2.out.mono (alloc_below w _).size)⟩

set_option maxHeartbeats 1000000 in
theorem toDesk_any (a : Option Addr) (n c : Nat) (N : Int) (ls : List Ss) (w : World) (hn : n = ls.length) (hP : RowG KSs w a ls) (hl : n ≤ 1048576) :
    Calls Try.prog 14 #[.agg #[.slice a n c, .int .i64 N]] w fun e w' => ∃ g, e = .returned (.agg #[.slice (some ⟨g, 0, none⟩) n n, .int .i64 N]) ∧ OwnG KSs 64 w' w.heap.size (.slice (some ⟨g, 0, none⟩) n n) ls ∧ Below w.heap.size w w' := by
  have HTP := hidP (fun W h => toSessionS_any a n c ls W hn (hP.later h) hl)
  clear hP hn
  go_enter Try.func14, Try.ntmps14
  go_wp2_with fail
  refine (HTP.out _ ?_).mono ?_
  · repeat (first | with_reducible exact Below.refl _ _ | (with_reducible refine Below.drew ?_) | (with_reducible refine Below.alloc ?_ ?_ _; rotate_left; (focus (first | omega | (simp; omega) | (simp; done)))) | (with_reducible refine Below.setCell ?_ ?_ _; rotate_left; (focus (first | omega | (simp; omega) | (simp; done)))))
  rintro e w1 ⟨g, rfl, og, hb1⟩
  have hz1 := hb1.size
  try simp at hz1
  have hgl := OwnG.lt og g rfl
  try simp at hgl
  have f10 : w.heap.size < w1.heap.size := by omega
  have f11 : w.heap.size + 1 < w1.heap.size := by omega
  have f12 : w.heap.size + 2 < w1.heap.size := by omega
  refine olds_k (w.heap.size + 3) hb1 ?_ ?_
  · first | omega | (simp; omega) | (simp; done)
  intro hc1 hf1
  have OG := hidP og
  clear og
  go_wp2_with fail
  refine bodyPost_ret (v := .agg #[.slice (some ⟨g, 0, none⟩) n n, .int .i64 N]) (by simp [results, Try.results14, go_sem, hc1]) rfl ⟨g, rfl, ?_, ?_⟩
  · have ne : ∀ x : Nat, x < w.heap.size + 3 → ∀ k, (Value.slice (some ⟨g, 0, none⟩) n n).ownBlock = some k → some x ≠ some k := fun x hx k hk e => by simp [Value.ownBlock] at hk e; omega
    refine OwnG.mono (B := w.heap.size + 3) ?_ (by omega)
    iterate 4 (with_reducible refine OwnG.grown ?_ (grown_cellG _ _ _ _) ?_; rotate_left; (focus (exact ne _ (by omega))))
    with_reducible exact OG.out.mono (by first | (simp; done) | (simp; omega))
  · repeat (first | with_reducible exact Below.refl _ _ | (with_reducible refine Below.drew ?_) | (with_reducible refine Below.alloc ?_ ?_ _; rotate_left; (focus (first | omega | (simp; omega) | (simp; done)))) | (with_reducible refine Below.setCell ?_ ?_ _; rotate_left; (focus (first | omega | (simp; omega) | (simp; done)))) | (with_reducible refine Below.trans ?_ (hb1.mono ?_); rotate_left; (focus (first | omega | (simp; omega) | (simp; done)))))

set_option maxHeartbeats 1000000 in
theorem eqDesk_same (a a' : Option Addr) (n c c' : Nat) (N : Int) (ls : List Ss) (w : World) (hn : n = ls.length) (hP : RowG KSs w a ls) (hP' : RowG KSs w a' ls) (hl : n ≤ 9000000000) :
    Calls Try.prog 20 #[.agg #[.slice a n c, .int .i64 N], .agg #[.slice a' n c', .int .i64 N]] w fun e w' => e = .returned (.bool true) ∧ Below w.heap.size w w' := by
  have HTP := hidP (fun W h => eqSessionS_same a a' n c c' ls W hn (hP.later h) (hP'.later h) hl)
  clear hP hP' hn
  go_enter Try.func20, Try.ntmps20
  go_wp2_with fail
  refine (HTP.out _ ?_).mono ?_
  · repeat (first | with_reducible exact Below.refl _ _ | (with_reducible refine Below.drew ?_) | (with_reducible refine Below.alloc ?_ ?_ _; rotate_left; (focus (first | omega | (simp; omega) | (simp; done)))) | (with_reducible refine Below.setCell ?_ ?_ _; rotate_left; (focus (first | omega | (simp; omega) | (simp; done)))))
  rintro e w1 ⟨rfl, hb1⟩
  have hz1 := hb1.size
  try simp at hz1
  have f10 : w.heap.size < w1.heap.size := by omega
  have f11 : w.heap.size + 1 < w1.heap.size := by omega
  refine olds_k (w.heap.size + 2) hb1 ?_ ?_
  · first | omega | (simp; omega) | (simp; done)
  intro hc1 hf1
  go_wp2_with fail
  go_ret
  refine ⟨rfl, ?_⟩
  repeat (first | with_reducible exact Below.refl _ _ | (with_reducible refine Below.drew ?_) | (with_reducible refine Below.alloc ?_ ?_ _; rotate_left; (focus (first | omega | (simp; omega) | (simp; done)))) | (with_reducible refine Below.setCell ?_ ?_ _; rotate_left; (focus (first | omega | (simp; omega) | (simp; done)))) | (with_reducible refine Below.trans ?_ (hb1.mono ?_); rotate_left; (focus (first | omega | (simp; omega) | (simp; done)))))

end Go.Proofs.Ytngcbhbcocnbeaa
