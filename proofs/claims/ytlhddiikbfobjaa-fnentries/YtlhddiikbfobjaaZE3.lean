/-
  Rows of bytes, as memory holds them, and what the laws' own functions do with them (toByteS, eqByteS, markByteS, heldByteS), by their plain twins; nothing old in memory turns but what is marked.
-/
import Derived.Test.YtlhddiikbfobjaaRows
import Derived.WalkKit
import Derived.WalkSpells
import Derived.WalkLawsBesides
import Derived.Deep.QuietTactic
import Derived.BigQuiet
import Derived.Deep.AppendLies
import Derived.Test.YtlhddiikbfobjaaZE2
import Derived.Test.YtlhddiikbfobjaaChecked
import GoSem.Claim
import GoSem.ClaimJoined
import GoSem.ClaimMapViews
import Derived.JoinedTies
import Derived.KernelRfl
import Derived.Carry
import Derived.Deep.Slices
import Derived.Deep.RegionWith
import Derived.Deep.RegionHeld3
import Derived.ChangeMaps5
import Derived.Lib.SmallJoins
import Derived.Lib.SliceRun
import Derived.Test.YtlhddiikbfobjaaZE1
namespace Go.Proofs.Ytlhddiikbfobjaa
open Go.RowKit

theorem hid' {p : Prop} (h : p) : Hid p := h
/-- The bytes zs lie in memory from a on. -/
def Byt (w : World) (a : Option Addr) (zs : List Int) : Prop := ∀ j, j < zs.length → ∃ p o z, a = some ⟨p, o, none⟩ ∧ p < w.heap.size ∧ w.cell? ⟨p, o + j, none⟩ = some (.int .u8 z) ∧ zs[j]? = some z
/-- Each is a byte. -/
def Oct (zs : List Int) : Prop := ∀ z ∈ zs, 0 ≤ z ∧ z ≤ 255
/-- A row of bytes that the call itself has made. -/
def Own (w : World) (B : Nat) (v : Value) (zs : List Int) : Prop := w.ownsRow B 5 1 v zs.length (zs.map (Value.int .u8))

theorem Byt.later {w w' : World} {a : Option Addr} {zs : List Int} (h : Byt w a zs) (hb : Below w.heap.size w w') : Byt w' a zs := fun j hj => by
  obtain ⟨p, o, z, ha, hp, hc, hz⟩ := h j hj
  exact ⟨p, o, z, ha, Nat.lt_of_lt_of_le hp hb.size, (hb.cell hp).trans hc, hz⟩
theorem Byt.nil (w : World) (a : Option Addr) : Byt w a [] := fun j hj => absurd hj (Nat.not_lt_zero j)
theorem Own.byt {w : World} {B g n cap : Nat} {zs : List Int} (h : Own w B (.slice (some ⟨g, 0, none⟩) n cap) zs) (hn : n = zs.length) : Byt w (some ⟨g, 0, none⟩) zs := fun j hj => by
  subst hn
  have hc := World.ownsRow.cellAt h j (by omega)
  have e : zs[j]? = some zs[j] := List.getElem?_eq_getElem hj
  have hlt := (World.ownsRow.lt h) g rfl
  refine ⟨g, 0, zs[j], rfl, hlt.2, ?_, e⟩
  rw [Nat.zero_add, hc, List.getElem?_map, e]; rfl
theorem Own.form {w : World} {B : Nat} {v : Value} {zs : List Int} (h : Own w B v zs) : ∃ a cap, v = .slice a zs.length cap ∧ Byt w a zs := by
  rcases h.2 with ⟨hv, h0⟩ | ⟨g, cap, cur, hv, hb, hg, h1, h2, h3, h4⟩
  · have : zs = [] := List.length_eq_zero_iff.1 h0
    subst this
    exact ⟨none, 0, hv, Byt.nil _ _⟩
  · have h' : Own w B (.slice (some ⟨g, 0, none⟩) zs.length cap) zs := by rw [← hv]; exact h
    exact ⟨some ⟨g, 0, none⟩, cap, hv, h'.byt rfl⟩
theorem Own.bytA {w : World} {B n cap : Nat} {a : Option Addr} {zs : List Int} (h : Own w B (.slice a n cap) zs) : Byt w a zs := by
  obtain ⟨a', c', e, hb⟩ := h.form
  simp at e
  rw [e.1]; exact hb
/-- A row that another one's turning does not touch. -/
theorem Own.kept {w w' : World} {B : Nat} {v u : Value} {zs : List Int} (h : Own w B v zs) (hg : w.grownBy w' u.ownBlock) (hne : ∀ k, v.ownBlock = some k → u.ownBlock = some k → False) : Own w' B v zs := by
  refine World.ownsRow.kept h hg ?_
  cases hv : v.ownBlock with
  | none => exact Or.inl rfl
  | some k => exact Or.inr (fun e => hne k hv e.symm)
theorem Own.lt {w : World} {B : Nat} {v : Value} {zs : List Int} (h : Own w B v zs) : ∀ k, v.ownBlock = some k → B ≤ k ∧ k < w.heap.size := World.ownsRow.lt h
theorem Own.alloc {w : World} {B : Nat} {v : Value} {zs : List Int} (h : Own w B v zs) (o : Obj) : Own (w.alloc o) B v zs := World.ownsRow.alloc h o
theorem Own.mono {w : World} {B B' : Nat} {v : Value} {zs : List Int} (h : Own w B v zs) (hb : B' ≤ B) : Own w B' v zs := by
  refine ⟨h.1, ?_⟩
  rcases h.2 with h1 | ⟨g, cap, cur, hv, hg, hr⟩
  · exact Or.inl h1
  · exact Or.inr ⟨g, cap, cur, hv, Nat.le_trans hb hg, hr⟩
theorem Own.later {w w' : World} {B : Nat} {v : Value} {zs : List Int} (h : Own w B v zs) (hb : Below w.heap.size w w') : Own w' B v zs := by
  refine ⟨h.1, ?_⟩
  rcases h.2 with h1 | ⟨g, cap, cur, hv, hg, hr, hr'⟩
  · exact Or.inl h1
  · refine Or.inr ⟨g, cap, cur, hv, hg, (hb.block g ?_).trans hr, hr'⟩
    rcases Nat.lt_or_ge g w.heap.size with hlt | hge
    · exact hlt
    · rw [Array.getElem?_eq_none hge] at hr; cases hr

theorem Try.infoU8 : (Try.prog.info? 5).map (fun i => (i.zero, i.size, i.bytes)) = some (some (.int .u8 0), 1, 1) := by kernel_rfl

/-- Are two rows alike? -/
def eqL (xs ys : List Int) : Bool := decide (xs = ys)
theorem eqL_len {xs ys : List Int} (h : xs.length ≠ ys.length) : eqL xs ys = false := by
  unfold eqL; rw [decide_eq_false_iff_not]; intro e; exact h (by rw [e])
theorem eqL_at {xs ys : List Int} (k : Nat) {x y : Int} (hx : xs[k]? = some x) (hy : ys[k]? = some y) (h : x ≠ y) : eqL xs ys = false := by
  unfold eqL; rw [decide_eq_false_iff_not]; intro e; rw [e] at hx; rw [hx] at hy; exact h (by simpa using hy)
theorem eqL_all {xs ys : List Int} (hl : xs.length = ys.length) (h : ∀ j, j < xs.length → xs[j]? = ys[j]?) : eqL xs ys = true := by
  unfold eqL; rw [decide_eq_true_eq]
  apply List.ext_getElem?
  intro j
  by_cases hj : j < xs.length
  · exact h j hj
  · rw [List.getElem?_eq_none (by omega), List.getElem?_eq_none (by omega)]

end Go.Proofs.Ytlhddiikbfobjaa

/-
  Rows of bytes as rows of things of one cell: the two ways of saying it are one.
-/
namespace Go.Proofs.Ytlhddiikbfobjaa
open Go.ChangeShapes Go.WideShapes Go.ChangeAt Go.RowKit Go.Joins Go.Deep

theorem alloc_below (w : World) (o : Obj) : Below w.heap.size w (w.alloc o) := (Below.refl _ _).alloc (Nat.le_refl _) o
theorem alloc_lt (w : World) (o : Obj) : w.heap.size < (w.alloc o).heap.size := by simp
/-- A byte, one cell. -/
def KBy : Kd Int := ⟨1, fun z => [.int .u8 z], fun _ => rfl, fun x u h => by simp at h; subst h; rfl⟩
theorem Try.tyBy : GTy KBy (.int .u8 0) 1 Try.prog 22 5 := ⟨Try.underlying22, by kernel_rfl, rfl, by omega⟩
theorem gflat_by : ∀ zs : List Int, gflat KBy zs = zs.map (Value.int .u8)
  | [] => rfl
  | z :: t => by show [Value.int .u8 z] ++ gflat KBy t = _; rw [gflat_by t]; rfl
theorem own_by {w : World} {B : Nat} {v : Value} {zs : List Int} : OwnG KBy 5 w B v zs ↔ Own w B v zs := by
  unfold OwnG Own; rw [gflat_by]; exact Iff.rfl
theorem row_by {w : World} {a : Option Addr} {zs : List Int} : RowG KBy w a zs ↔ Byt w a zs := by
  constructor
  · intro h j hj
    obtain ⟨p, o, q, ha, hp, hq, c⟩ := h j hj
    have := c 0 _ rfl
    exact ⟨p, o, q, ha, hp, by simpa [KBy] using this, hq⟩
  · intro h j hj
    obtain ⟨p, o, z, ha, hp, hc, hz⟩ := h j hj
    refine ⟨p, o, z, ha, hp, hz, fun i v hv => ?_⟩
    match i, hv with
    | 0, hv => simp [KBy] at hv; subst hv; simpa [KBy] using hc
    | i + 1, hv => simp [KBy] at hv

end Go.Proofs.Ytlhddiikbfobjaa

/-
  Rows of numbers: the laws' copies of them, looks at them, marks, sizes and their reading; slices.Clone of one.
-/
namespace Go.Proofs.Ytlhddiikbfobjaa
open Go.ChangeShapes Go.WideShapes Go.ChangeAt Go.RowKit Go.Joins Go.Deep

theorem box2D (w : World) (t : TypeId) (u v : Value) : (w.alloc (.cells #[u, v] t)).cell? ⟨w.heap.size, 0, none⟩ = some u ∧ (w.alloc (.cells #[u, v] t)).cell? ⟨w.heap.size, 1, none⟩ = some v := ⟨by simp [go_sem], by simp [go_sem]⟩
theorem cell_set1 {w : World} {b o x o' : Nat} {u v : Value} (h : w.cell? ⟨b, o, none⟩ = some u) (hne : b ≠ x) : (w.setCell ⟨x, o', none⟩ v).cell? ⟨b, o, none⟩ = some u := by
  rw [World.cell?_of_block (w := w) ((grown_cellG w x o' v).block b (World.block_lt_of_cell? w _ h) (fun e => hne (by simpa using e)))]
  exact h
theorem frz_set1 {w : World} {b o x o' : Nat} {v : Value} (h : w.frozen? ⟨b, o, none⟩ = false) : (w.setCell ⟨x, o', none⟩ v).frozen? ⟨b, o, none⟩ = false := by
  simpa [go_sem] using h
theorem frz2 (w : World) (t : TypeId) (u v : Value) (o : Nat) : (w.alloc (.cells #[u, v] t)).frozen? ⟨w.heap.size, o, none⟩ = false := by simp [go_sem]
theorem OwnG.drewG {α : Type} {K : Kd α} {t : TypeId} {w : World} {B : Nat} {v : Value} {ps : List α} (h : OwnG K t w B v ps) : OwnG K t w.drew B v ps := OwnG.later h (Below.refl _ _).drew
theorem ob_some (p n c : Nat) : (Value.slice (some ⟨p, 0, none⟩) n c).ownBlock = some p := rfl
theorem OwnG.ne_of {α : Type} {K : Kd α} {t : TypeId} {w : World} {B x : Nat} {v : Value} {ps : List α} (h : OwnG K t w B v ps) (hx : x < B) : ∀ k, v.ownBlock = some k → some x ≠ some k := fun k hk e => by
  have := (OwnG.lt h k hk).1
  simp at e; omega

def KI : Kd Int := ⟨1, fun x => [.int .i64 x], fun _ => rfl, fun x u h => by
  simp at h; subst h; rfl⟩
theorem Try.tyI : GTy KI (.int .i64 0) 8 Try.prog 24 3 := ⟨Try.underlying24, by kernel_rfl, rfl, by omega⟩
theorem rowI {w : World} {a : Option Addr} {ps : List Int} (h : RowG KI w a ps) (j : Nat) (hj : j < ps.length) : ∃ p o q, a = some ⟨p, o, none⟩ ∧ p < w.heap.size ∧ ps[j]? = some q ∧ w.cell? ⟨p, o + j, none⟩ = some (.int .i64 q) := by
  obtain ⟨p, o, q, ha, hp, hq, c⟩ := h j hj
  have := c 0 _ rfl
  rw [show KI.k = 1 from rfl, Nat.mul_one, Nat.add_zero] at this
  exact ⟨p, o, q, ha, hp, hq, this⟩
set_option maxHeartbeats 1000000 in
theorem cloneInt (a : Option Addr) (n cap : Nat) (ps : List Int) (w : World) (hn : n = ps.length) (hB : RowG KI w a ps) (hl : n ≤ 1048576) :
    Calls Try.prog 69 #[.slice a n cap] w fun e w' => ∃ a' c', e = .returned (.slice a' n c') ∧ OwnG KI 3 w' w.heap.size (.slice a' n c') ps ∧ Below w.heap.size w w' := by
  have hq : ∀ w, (binOp .eql 24 (.slice a n cap) (.slice none 0 0)).run Try.prog w = .ok (.bool a.isNone) w := fun w => Lib.run_eql_slice_nil w _ _ a n cap 0 0 Try.tyI.1
  cases a with
  | none =>
    have hps : ps = [] := by
      cases ps with
      | nil => rfl
      | cons z t => obtain ⟨p, o, z', e, _⟩ := hB 0 (by simp); cases e
    subst hps
    have hn0 : n = 0 := hn
    subst hn0
    clear hB hn
    go_enter Try.func69, Try.ntmps69
    go_wp2_with fail
    go_ret
    exact ⟨none, 0, rfl, own_noneG KI w w.heap.size 3, Below.refl _ _⟩
  | some ad =>
    have HB := hidP hB
    have HN := hidP hn
    clear hB hn
    have HZ := hidP (own_zeroG KI w w.heap.size 3 (Nat.le_refl _))
    have HZB := hidP (alloc_below w (.cells #[] 3))
    go_enter Try.func69, Try.ntmps69
    go_wp2_with (at_builtin; refine wpList_appG Try.tyI _ rfl (.tmp 5) (.tmp 6) 24 rfl w.heap.size (some ⟨w.heap.size, 0, none⟩) 0 0 n [] ps (.slice (some ad) n cap) rfl rfl HN.out HZ.out rfl (src_rowG Try.tyI.1 n cap (by show 0 < 1; omega) HN.out (HB.out.later HZB.out) (fun h => by cases h)) (by omega) (by simp) ?_; intro a6 c6 w6 ho6 hg6 ht6)
    have HF := hidP (And.intro ho6 (below_appG HZB.out HZ.out (by simp) hg6))
    clear ho6 hg6 ht6
    go_wp2_with fail
    go_ret
    have h := HF.out
    rw [Nat.zero_add, List.nil_append] at h
    exact ⟨a6, c6, rfl, h.1, h.2⟩

end Go.Proofs.Ytlhddiikbfobjaa
