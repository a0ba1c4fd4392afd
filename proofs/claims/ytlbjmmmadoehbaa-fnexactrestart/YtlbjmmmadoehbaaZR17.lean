/-
  Rows of bytes, as memory holds them, and what the laws' own functions do with them (toByteS, eqByteS, markByteS, heldByteS), by their plain twins; nothing old in memory turns but what is marked.
-/
import Derived.Test.YtlbjmmmadoehbaaRows
import Derived.WalkKit
import Derived.WalkSpells
import Derived.WalkLawsBesides
import Derived.Deep.QuietTactic
import Derived.BigQuiet
import Derived.Deep.AppendLies
import Derived.Test.YtlbjmmmadoehbaaZR16
import Derived.Test.YtlbjmmmadoehbaaChecked
import GoSem.Claim
import GoSem.ClaimJoined
import GoSem.ClaimMapViews
import Derived.JoinedTies
import Derived.KernelRfl
import Derived.Carry
import Derived.Deep.Slices
import Derived.Deep.RegionWith
import Derived.Deep.RegionHeld3
import Derived.ChangeMaps5
import Derived.Lib.SmallJoins
import Derived.Lib.SliceRun
import Derived.Test.YtlbjmmmadoehbaaZR1
namespace Go.Proofs.Ytlbjmmmadoehbaa
open Go.RowKit

/-- The bytes zs lie in memory from a on. -/
def Byt (w : World) (a : Option Addr) (zs : List Int) : Prop := ∀ j, j < zs.length → ∃ p o z, a = some ⟨p, o, none⟩ ∧ p < w.heap.size ∧ w.cell? ⟨p, o + j, none⟩ = some (.int .u8 z) ∧ zs[j]? = some z
/-- Each is a byte. -/
def Oct (zs : List Int) : Prop := ∀ z ∈ zs, 0 ≤ z ∧ z ≤ 255
/-- A row of bytes that the call itself has made. -/
def Own (w : World) (B : Nat) (v : Value) (zs : List Int) : Prop := w.ownsRow B 5 1 v zs.length (zs.map (Value.int .u8))

theorem Byt.later {w w' : World} {a : Option Addr} {zs : List Int} (h : Byt w a zs) (hb : Below w.heap.size w w') : Byt w' a zs := fun j hj => by
  obtain ⟨p, o, z, ha, hp, hc, hz⟩ := h j hj
  exact ⟨p, o, z, ha, Nat.lt_of_lt_of_le hp hb.size, (hb.cell hp).trans hc, hz⟩
theorem Byt.nil (w : World) (a : Option Addr) : Byt w a [] := fun j hj => absurd hj (Nat.not_lt_zero j)
/-- A row that another one's turning does not touch. -/
theorem Own.kept {w w' : World} {B : Nat} {v u : Value} {zs : List Int} (h : Own w B v zs) (hg : w.grownBy w' u.ownBlock) (hne : ∀ k, v.ownBlock = some k → u.ownBlock = some k → False) : Own w' B v zs := by
  refine World.ownsRow.kept h hg ?_
  cases hv : v.ownBlock with
  | none => exact Or.inl rfl
  | some k => exact Or.inr (fun e => hne k hv e.symm)
theorem Own.lt {w : World} {B : Nat} {v : Value} {zs : List Int} (h : Own w B v zs) : ∀ k, v.ownBlock = some k → B ≤ k ∧ k < w.heap.size := World.ownsRow.lt h
theorem Own.alloc {w : World} {B : Nat} {v : Value} {zs : List Int} (h : Own w B v zs) (o : Obj) : Own (w.alloc o) B v zs := World.ownsRow.alloc h o
theorem Own.mono {w : World} {B B' : Nat} {v : Value} {zs : List Int} (h : Own w B v zs) (hb : B' ≤ B) : Own w B' v zs := by
  refine ⟨h.1, ?_⟩
  rcases h.2 with h1 | ⟨g, cap, cur, hv, hg, hr⟩
  · exact Or.inl h1
  · exact Or.inr ⟨g, cap, cur, hv, Nat.le_trans hb hg, hr⟩
theorem Own.later {w w' : World} {B : Nat} {v : Value} {zs : List Int} (h : Own w B v zs) (hb : Below w.heap.size w w') : Own w' B v zs := by
  refine ⟨h.1, ?_⟩
  rcases h.2 with h1 | ⟨g, cap, cur, hv, hg, hr, hr'⟩
  · exact Or.inl h1
  · refine Or.inr ⟨g, cap, cur, hv, hg, (hb.block g ?_).trans hr, hr'⟩
    rcases Nat.lt_or_ge g w.heap.size with hlt | hge
    · exact hlt
    · rw [Array.getElem?_eq_none hge] at hr; cases hr

theorem Try.infoU8 : (Try.prog.info? 5).map (fun i => (i.zero, i.size, i.bytes)) = some (some (.int .u8 0), 1, 1) := by kernel_rfl

theorem step_set (zs : List Int) (k : Nat) (z : Int) (hk : k < zs.length) (hz : zs[k]? = some z) :
    ((zs.take k).map (Value.int .u8) ++ List.replicate (zs.length - k) (Value.int .u8 0)).set k (.int .u8 z) = (zs.take (k + 1)).map (Value.int .u8) ++ List.replicate (zs.length - (k + 1)) (Value.int .u8 0) := by
  have e : zs.length - k = (zs.length - (k + 1)) + 1 := by omega
  have hl : ((zs.take k).map (Value.int .u8)).length = k := by simp; omega
  have hzk : zs[k] = z := by rw [List.getElem?_eq_getElem hk] at hz; simpa using hz
  rw [e, List.replicate_succ, List.set_append_right _ _ (by omega), hl, Nat.sub_self, List.set_cons_zero, List.take_succ_eq_append_getElem hk, hzk]
  simp

set_option maxHeartbeats 1000000 in
theorem toByteS_any (a : Option Addr) (cap : Nat) (zs : List Int) (w : World) (hB : Byt w a zs) (hl : zs.length ≤ 1048576) :
    Calls Try.prog 20 #[.slice a zs.length cap] w fun e w' => e = .returned (.slice (some ⟨w.heap.size, 0, none⟩) zs.length zs.length) ∧ Own w' w.heap.size (.slice (some ⟨w.heap.size, 0, none⟩) zs.length zs.length) zs ∧ Below w.heap.size w w' := by
  obtain ⟨i0, hi, hz0, hz1, hz2⟩ := info_parts Try.infoU8
  have HB : Hid (Byt w a zs) := hB
  clear hB
  obtain ⟨n, hn⟩ : ∃ n, n = zs.length := ⟨_, rfl⟩
  rw [← hn] at hl ⊢
  have HN : Hid (n = zs.length) := hn
  clear hn
  go_enter Try.func20, Try.ntmps20
  go_wp2_with (refine wpList_make_full _ rfl (.tmp 6) (.tmp 6) 25 rfl w.heap.size 5 i0 (.int .u8 0) 1 Try.underlying25 hi hz0 hz1 .i64 .i64 n n n rfl rfl rfl rfl (by rw [hz2]; omega) (by unfold maxLen; omega) (Nat.le_refl _) ?_; intro w1 hown hgrow)
  have HO : Hid (w1.ownsRow w.heap.size 5 1 (.slice (some ⟨w.heap.size, 0, none⟩) n n) n ((zs.take 0).map (Value.int .u8) ++ List.replicate (zs.length - 0) (Value.int .u8 0))) := by
    have e : (madeCells (Value.int .u8 0).cells (n * 1)).toList = List.replicate n (Value.int .u8 0) := by rw [Nat.mul_one]; exact toList_madeCells_one _ _
    rw [e] at hown
    unfold Hid; rw [Nat.sub_zero, ← HN.out]; simpa using hown
  have HW : Hid (Below w.heap.size w w1) := (Below.refl _ w).grown hgrow (Nat.le_refl _) (fun k hk => by cases hk)
  clear hown hgrow
  go_loopw [4] (fun t4 wr => ∃ k : Nat, k ≤ n ∧ t4 = .int .i64 k ∧ wr.ownsRow w.heap.size 5 1 (.slice (some ⟨w.heap.size, 0, none⟩) n n) n ((zs.take k).map (Value.int .u8) ++ List.replicate (zs.length - k) (Value.int .u8 0)) ∧ Below w.heap.size w wr) (fun t4 _ => n - (intOf t4).toNat)
  case atStart => exact ⟨0, Nat.zero_le _, rfl, HO.out, HW.out⟩
  case round =>
    obtain ⟨k, hk, rfl, hown, hbel⟩ := hrel
    by_cases hlt : k < n
    · obtain ⟨p, o, z, rfl, hp, hc, hz⟩ := HB.out k (by rw [← HN.out]; exact hlt)
      have cv : wr.cell? ⟨p, o + k, none⟩ = some (.int .u8 z) := (hbel.cell hp).trans hc
      have ce : ∃ v, wr.cell? ⟨w.heap.size, k, none⟩ = some v := by
        have h := hown.cellAt k (by omega)
        rw [h, List.getElem?_eq_getElem (by have := HN.out; simp; omega)]
        exact ⟨_, rfl⟩
      obtain ⟨v0, ce⟩ := ce
      have cf := hown.frozenAt k
      have st := hown.stored k (.int .u8 z)
      rw [step_set zs k z (by rw [← HN.out]; exact hlt) hz] at st
      have HS : Hid (_ ∧ _) := st
      have HBel : Hid (Below w.heap.size w wr) := hbel
      clear st hown hbel hc hz HO HW
      go_wp2
      go_roundw
      case rel => exact ⟨k + 1, by omega, by go_num, HS.out.1, HBel.out.setCell (Nat.le_refl _) _⟩
      case measure => simp [intOf]; omega
    · have hkn : k = n := by omega
      subst hkn
      have HO2 : Hid (Own wr w.heap.size (.slice (some ⟨w.heap.size, 0, none⟩) k k) zs) := by
        unfold Hid Own; have e := HN.out; rw [e] at hown ⊢; simpa using hown
      have HBel : Hid (Below w.heap.size w wr) := hbel
      clear hown hbel HO HW
      go_wp2
      go_ret
      exact ⟨rfl, HO2.out, HBel.out⟩

/-- Are two rows alike? -/
def eqL (xs ys : List Int) : Bool := decide (xs = ys)
theorem eqL_len {xs ys : List Int} (h : xs.length ≠ ys.length) : eqL xs ys = false := by
  unfold eqL; rw [decide_eq_false_iff_not]; intro e; exact h (by rw [e])
theorem eqL_at {xs ys : List Int} (k : Nat) {x y : Int} (hx : xs[k]? = some x) (hy : ys[k]? = some y) (h : x ≠ y) : eqL xs ys = false := by
  unfold eqL; rw [decide_eq_false_iff_not]; intro e; rw [e] at hx; rw [hx] at hy; exact h (by simpa using hy)
theorem eqL_all {xs ys : List Int} (hl : xs.length = ys.length) (h : ∀ j, j < xs.length → xs[j]? = ys[j]?) : eqL xs ys = true := by
  unfold eqL; rw [decide_eq_true_eq]
  apply List.ext_getElem?
  intro j
  by_cases hj : j < xs.length
  · exact h j hj
  · rw [List.getElem?_eq_none (by omega), List.getElem?_eq_none (by omega)]

end Go.Proofs.Ytlbjmmmadoehbaa

/-
  Rows of bytes as rows of things of one cell: the two ways of saying it are one.
-/
namespace Go.Proofs.Ytlbjmmmadoehbaa
open Go.ChangeShapes Go.WideShapes Go.ChangeAt Go.RowKit Go.Joins Go.Deep

theorem alloc_below (w : World) (o : Obj) : Below w.heap.size w (w.alloc o) := (Below.refl _ _).alloc (Nat.le_refl _) o
theorem alloc_lt (w : World) (o : Obj) : w.heap.size < (w.alloc o).heap.size := by simp
/-- A byte, one cell. -/
def KBy : Kd Int := ⟨1, fun z => [.int .u8 z], fun _ => rfl, fun x u h => by simp at h; subst h; rfl⟩
theorem Try.tyBy : GTy KBy (.int .u8 0) 1 Try.prog 25 5 := ⟨Try.underlying25, by kernel_rfl, rfl, by omega⟩
theorem gflat_by : ∀ zs : List Int, gflat KBy zs = zs.map (Value.int .u8)
  | [] => rfl
  | z :: t => by show [Value.int .u8 z] ++ gflat KBy t = _; rw [gflat_by t]; rfl
theorem own_by {w : World} {B : Nat} {v : Value} {zs : List Int} : OwnG KBy 5 w B v zs ↔ Own w B v zs := by
  unfold OwnG Own; rw [gflat_by]; exact Iff.rfl
theorem row_by {w : World} {a : Option Addr} {zs : List Int} : RowG KBy w a zs ↔ Byt w a zs := by
  constructor
  · intro h j hj
    obtain ⟨p, o, q, ha, hp, hq, c⟩ := h j hj
    have := c 0 _ rfl
    exact ⟨p, o, q, ha, hp, by simpa [KBy] using this, hq⟩
  · intro h j hj
    obtain ⟨p, o, z, ha, hp, hc, hz⟩ := h j hj
    refine ⟨p, o, z, ha, hp, hz, fun i v hv => ?_⟩
    match i, hv with
    | 0, hv => simp [KBy] at hv; subst hv; simpa [KBy] using hc
    | i + 1, hv => simp [KBy] at hv
theorem toByteG (a : Option Addr) (n cap : Nat) (zs : List Int) (w : World) (hn : n = zs.length) (hB : RowG KBy w a zs) (hl : n ≤ 1048576) :
    Calls Try.prog 20 #[.slice a n cap] w fun e w' => ∃ g, e = .returned (.slice (some ⟨g, 0, none⟩) n n) ∧ OwnG KBy 5 w' w.heap.size (.slice (some ⟨g, 0, none⟩) n n) zs ∧ Below w.heap.size w w' := by
  subst hn
  exact (toByteS_any a cap zs w (row_by.1 hB) hl).mono fun _ _ h => ⟨w.heap.size, h.1, own_by.2 h.2.1, h.2.2⟩

end Go.Proofs.Ytlbjmmmadoehbaa

/-
  Rows of numbers: the laws' copies of them, looks at them, marks, sizes and their reading; slices.Clone of one.
-/
namespace Go.Proofs.Ytlbjmmmadoehbaa
open Go.ChangeShapes Go.WideShapes Go.ChangeAt Go.RowKit Go.Joins Go.Deep

theorem box2D (w : World) (t : TypeId) (u v : Value) : (w.alloc (.cells #[u, v] t)).cell? ⟨w.heap.size, 0, none⟩ = some u ∧ (w.alloc (.cells #[u, v] t)).cell? ⟨w.heap.size, 1, none⟩ = some v := ⟨by simp [go_sem], by simp [go_sem]⟩
theorem frz2 (w : World) (t : TypeId) (u v : Value) (o : Nat) : (w.alloc (.cells #[u, v] t)).frozen? ⟨w.heap.size, o, none⟩ = false := by simp [go_sem]
theorem OwnG.drewG {α : Type} {K : Kd α} {t : TypeId} {w : World} {B : Nat} {v : Value} {ps : List α} (h : OwnG K t w B v ps) : OwnG K t w.drew B v ps := OwnG.later h (Below.refl _ _).drew
theorem ob_some (p n c : Nat) : (Value.slice (some ⟨p, 0, none⟩) n c).ownBlock = some p := rfl
theorem OwnG.ne_of {α : Type} {K : Kd α} {t : TypeId} {w : World} {B x : Nat} {v : Value} {ps : List α} (h : OwnG K t w B v ps) (hx : x < B) : ∀ k, v.ownBlock = some k → some x ≠ some k := fun k hk e => by
  have := (OwnG.lt h k hk).1
  simp at e; omega

def KI : Kd Int := ⟨1, fun x => [.int .i64 x], fun _ => rfl, fun x u h => by
  simp at h; subst h; rfl⟩
theorem Try.tyI : GTy KI (.int .i64 0) 8 Try.prog 22 3 := ⟨Try.underlying22, by kernel_rfl, rfl, by omega⟩
theorem rowI {w : World} {a : Option Addr} {ps : List Int} (h : RowG KI w a ps) (j : Nat) (hj : j < ps.length) : ∃ p o q, a = some ⟨p, o, none⟩ ∧ p < w.heap.size ∧ ps[j]? = some q ∧ w.cell? ⟨p, o + j, none⟩ = some (.int .i64 q) := by
  obtain ⟨p, o, q, ha, hp, hq, c⟩ := h j hj
  have := c 0 _ rfl
  rw [show KI.k = 1 from rfl, Nat.mul_one, Nat.add_zero] at this
  exact ⟨p, o, q, ha, hp, hq, this⟩
theorem rowI0 {w : World} {g n cap B : Nat} {t : TypeId} {ps : List Int} (h : OwnG KI t w B (.slice (some ⟨g, 0, none⟩) n cap) ps) (j : Nat) (hj : j < ps.length) : ∃ q, g < w.heap.size ∧ ps[j]? = some q ∧ w.cell? ⟨g, j, none⟩ = some (.int .i64 q) := by
  obtain ⟨p, o, q, ha, hp, hq, c0⟩ := rowI h.row j hj
  simp only [Option.some.injEq, Addr.mk.injEq, and_true] at ha
  obtain ⟨rfl, rfl⟩ := ha
  rw [Nat.zero_add] at c0
  exact ⟨q, hp, hq, c0⟩
theorem putI {t : TypeId} {w : World} {B g n cap : Nat} {ps : List Int} (h : OwnG KI t w B (.slice (some ⟨g, 0, none⟩) n cap) ps) (hn : n = ps.length) (j : Nat) (hj : j < n) (q : Int) :
    OwnG KI t (w.setCell ⟨g, j, none⟩ (.int .i64 q)) B (.slice (some ⟨g, 0, none⟩) n cap) (ps.set j q) := by
  have := h.put hn j hj q
  rw [show j * KI.k = j from Nat.mul_one j] at this
  exact this

theorem frzI {t : TypeId} {w : World} {B g n cap : Nat} {ps : List Int} (h : OwnG KI t w B (.slice (some ⟨g, 0, none⟩) n cap) ps) (j : Nat) : w.frozen? ⟨g, j, none⟩ = false := h.frozen _
set_option maxHeartbeats 1000000 in
theorem toIntS_any (a : Option Addr) (n cap : Nat) (ps : List Int) (w : World) (hn : n = ps.length) (hB : RowG KI w a ps) (hl : n ≤ 1048576) :
    Calls Try.prog 42 #[.slice a n cap] w fun e w' => ∃ g, e = .returned (.slice (some ⟨g, 0, none⟩) n n) ∧ OwnG KI 3 w' w.heap.size (.slice (some ⟨g, 0, none⟩) n n) ps ∧ Below w.heap.size w w' := by
  obtain ⟨i0, hi, hz0, hz1, hz2⟩ := info_parts Try.tyI.2.1
  have HB := hidP hB
  have HN := hidP hn
  clear hB hn
  go_enter Try.func42, Try.ntmps42
  go_wp2_with (refine wpList_make_full _ rfl (.tmp 6) (.tmp 6) 22 rfl w.heap.size 3 i0 _ 1 Try.tyI.1 hi hz0 hz1 .i64 .i64 n n n rfl rfl rfl rfl (by rw [hz2]; omega) (by unfold maxLen; omega) (Nat.le_refl _) ?_; intro w1 hown hgrow)
  have HO : Hid (OwnG KI 3 w1 w.heap.size (.slice (some ⟨w.heap.size, 0, none⟩) n n) (ps.take 0 ++ List.replicate (ps.length - 0) 0)) := by
    have hm := made_gen KI 0 (by show 0 < 1; omega) (.int .i64 0) rfl n
    rw [show n * 1 = n * KI.k from rfl, hm] at hown
    refine hidP ?_
    unfold OwnG
    rw [Nat.sub_zero, List.take_zero, List.nil_append, List.length_replicate, ← HN.out]; exact hown
  have HW : Hid (Below w.heap.size w w1) := (Below.refl _ w).grown hgrow (Nat.le_refl _) (fun k hk => by cases hk)
  clear hown hgrow
  go_loopw [4] (fun t4 wr => ∃ k : Nat, k ≤ n ∧ t4 = .int .i64 k ∧ OwnG KI 3 wr w.heap.size (.slice (some ⟨w.heap.size, 0, none⟩) n n) (ps.take k ++ List.replicate (ps.length - k) 0) ∧ Below w.heap.size w wr) (fun t4 _ => n - (intOf t4).toNat)
  case atStart => exact ⟨0, Nat.zero_le _, rfl, HO.out, HW.out⟩
  case round =>
    obtain ⟨k, hk, rfl, hown, hbel⟩ := hrel
    by_cases hlt : k < n
    · obtain ⟨p, o, q, rfl, hp, hq, c0⟩ := rowI HB.out k (by rw [← HN.out]; exact hlt)
      have d0 := (hbel.cell hp).trans c0
      have HBel := hidP hbel
      have HQ := hidP hq
      have hlen : n = (ps.take k ++ List.replicate (ps.length - k) 0).length := by rw [List.length_append, List.length_take, List.length_replicate, HN.out]; have := HN.out; omega
      have f0 := frzI hown k
      have hput' := putI hown hlen k hlt q
      rw [copy_stepG 0 ps k q (by rw [← HN.out]; exact hlt) HQ.out] at hput'
      have HP := hidP hput'
      obtain ⟨q', hp', _, e0⟩ := rowI0 hown k (by rw [← hlen]; exact hlt)
      clear hown hbel c0 hq HO HW hput' hlen
      go_wp2_with fail
      go_roundw
      case rel => exact ⟨k + 1, by omega, by go_num, HP.out, HBel.out.setCell (Nat.le_refl _) _⟩
      case measure => simp [intOf]; omega
    · have hkn : k = n := by omega
      subst hkn
      have HO2 : Hid (OwnG KI 3 wr w.heap.size (.slice (some ⟨w.heap.size, 0, none⟩) k k) ps) := by
        have e := HN.out
        rw [e, List.take_length, Nat.sub_self, List.replicate_zero, List.append_nil] at hown
        rw [← e] at hown
        exact hidP hown
      have HBel : Hid (Below w.heap.size w wr) := hbel
      clear hown hbel HO HW
      go_wp2
      go_ret
      exact ⟨_, rfl, HO2.out, HBel.out⟩

set_option maxHeartbeats 1000000 in
theorem cloneInt (a : Option Addr) (n cap : Nat) (ps : List Int) (w : World) (hn : n = ps.length) (hB : RowG KI w a ps) (hl : n ≤ 1048576) :
    Calls Try.prog 60 #[.slice a n cap] w fun e w' => ∃ a' c', e = .returned (.slice a' n c') ∧ OwnG KI 3 w' w.heap.size (.slice a' n c') ps ∧ Below w.heap.size w w' := by
  have hq : ∀ w, (binOp .eql 22 (.slice a n cap) (.slice none 0 0)).run Try.prog w = .ok (.bool a.isNone) w := fun w => Lib.run_eql_slice_nil w _ _ a n cap 0 0 Try.tyI.1
  cases a with
  | none =>
    have hps : ps = [] := by
      cases ps with
      | nil => rfl
      | cons z t => obtain ⟨p, o, z', e, _⟩ := hB 0 (by simp); cases e
    subst hps
    have hn0 : n = 0 := hn
    subst hn0
    clear hB hn
    go_enter Try.func60, Try.ntmps60
    go_wp2_with fail
    go_ret
    exact ⟨none, 0, rfl, own_noneG KI w w.heap.size 3, Below.refl _ _⟩
  | some ad =>
    have HB := hidP hB
    have HN := hidP hn
    clear hB hn
    have HZ := hidP (own_zeroG KI w w.heap.size 3 (Nat.le_refl _))
    have HZB := hidP (alloc_below w (.cells #[] 3))
    go_enter Try.func60, Try.ntmps60
    go_wp2_with (at_builtin; refine wpList_appG Try.tyI _ rfl (.tmp 5) (.tmp 6) 22 rfl w.heap.size (some ⟨w.heap.size, 0, none⟩) 0 0 n [] ps (.slice (some ad) n cap) rfl rfl HN.out HZ.out rfl (src_rowG Try.tyI.1 n cap (by show 0 < 1; omega) HN.out (HB.out.later HZB.out) (fun h => by cases h)) (by omega) (by simp) ?_; intro a6 c6 w6 ho6 hg6 ht6)
    have HF := hidP (And.intro ho6 (below_appG HZB.out HZ.out (by simp) hg6))
    clear ho6 hg6 ht6
    go_wp2_with fail
    go_ret
    have h := HF.out
    rw [Nat.zero_add, List.nil_append] at h
    exact ⟨a6, c6, rfl, h.1, h.2⟩

end Go.Proofs.Ytlbjmmmadoehbaa

/-
  The laws' copies of groups, looks at them, marks and sizes; the reading of a group that came in.
-/
namespace Go.Proofs.Ytlbjmmmadoehbaa
open Go.ChangeShapes Go.WideShapes Go.ChangeAt Go.RowKit Go.Joins Go.Deep

set_option maxHeartbeats 1000000 in
theorem toGroup_any (ap : Option Addr) (np cp : Nat) (ab : Option Addr) (nb cb : Nat) (ps : List Int) (bs : List Int) (w : World) (hnp : np = ps.length) (hnb : nb = bs.length) (hP : RowG KI w ap ps) (hK : RowG KI w ab bs) (hl : np ≤ 1048576) (hl' : nb ≤ 1048576) :
    Calls Try.prog 19 #[.agg #[.slice ap np cp, .slice ab nb cb]] w fun e w' => ∃ g h, e = .returned (.agg #[.slice (some ⟨g, 0, none⟩) np np, .slice (some ⟨h, 0, none⟩) nb nb]) ∧ OwnG KI 3 w' w.heap.size (.slice (some ⟨g, 0, none⟩) np np) ps ∧ OwnG KI 3 w' w.heap.size (.slice (some ⟨h, 0, none⟩) nb nb) bs ∧ g ≠ h ∧ Below w.heap.size w w' := by
  have HTP := hidP (fun W h => toIntS_any ap np cp ps W hnp (hP.later h) hl)
  have HTB := hidP (fun W h => toIntS_any ab nb cb bs W hnb (hK.later h) hl')
  clear hP hK hnp hnb
  go_enter Try.func19, Try.ntmps19
  go_wp2_with fail
  refine (HTP.out _ ?_).mono ?_
  · repeat (first | with_reducible exact Below.refl _ _ | (with_reducible refine Below.drew ?_) | (with_reducible refine Below.alloc ?_ ?_ _; rotate_left; (focus (first | omega | (simp; omega) | (simp; done)))) | (with_reducible refine Below.setCell ?_ ?_ _; rotate_left; (focus (first | omega | (simp; omega) | (simp; done)))))
  rintro e w1 ⟨g, rfl, og, hb1⟩
  have hz1 := hb1.size
  try simp at hz1
  have hgl := OwnG.lt og g rfl
  try simp at hgl
  have f10 : w.heap.size < w1.heap.size := by omega
  have f11 : w.heap.size + 1 < w1.heap.size := by omega
  have f12 : w.heap.size + 2 < w1.heap.size := by omega
  refine olds_k (w.heap.size + 3) hb1 ?_ ?_
  · first | omega | (simp; omega) | (simp; done)
  intro hc1 hf1
  have OG := hidP og
  clear og
  go_wp2_with fail
  refine (HTB.out _ ?_).mono ?_
  · repeat (first | with_reducible exact Below.refl _ _ | (with_reducible refine Below.drew ?_) | (with_reducible refine Below.alloc ?_ ?_ _; rotate_left; (focus (first | omega | (simp; omega) | (simp; done)))) | (with_reducible refine Below.setCell ?_ ?_ _; rotate_left; (focus (first | omega | (simp; omega) | (simp; done)))) | (with_reducible refine Below.trans ?_ (hb1.mono ?_); rotate_left; (focus (first | omega | (simp; omega) | (simp; done)))))
  rintro e w2 ⟨h, rfl, oh, hb2⟩
  have hz2 := hb2.size
  try simp at hz2
  have hhl := OwnG.lt oh h rfl
  try simp at hhl
  have f20 : w.heap.size < w2.heap.size := by omega
  have f21 : w.heap.size + 1 < w2.heap.size := by omega
  have f22 : w.heap.size + 2 < w2.heap.size := by omega
  refine olds_k (w1.heap.size) hb2 ?_ ?_
  · first | omega | (simp; omega) | (simp; done)
  intro hc2 hf2
  have OH := hidP oh
  clear oh
  have OG2 := hidP ((OwnG.grown OG.out (grown_cellG w1 (w.heap.size + 2) 0 (.slice (some ⟨g, 0, none⟩) np np)) (fun k hk => by simp [Value.ownBlock] at hk; subst hk; intro hh; simp at hh; omega)).later hb2)
  have hgh : g ≠ h := by omega
  have q0 : w2.cell? ⟨w.heap.size + 1, 0, none⟩ = some (.slice none 0 0) := by rw [hc2 _ _ f11]; simp [go_sem, hc1]
  have q1 : w2.cell? ⟨w.heap.size + 1, 1, none⟩ = some (.slice none 0 0) := by rw [hc2 _ _ f11]; simp [go_sem, hc1]
  go_wp2_with fail
  refine bodyPost_ret (v := .agg #[.slice (some ⟨g, 0, none⟩) np np, .slice (some ⟨h, 0, none⟩) nb nb]) (by simp [results, Try.results19, go_sem, q0, q1]) rfl ⟨g, h, rfl, ?_, ?_, hgh, ?_⟩
  · have o1 := OwnG.grown OG2.out (grown_cellG w2 (w.heap.size + 1 + 1) 1 (.slice (some ⟨h, 0, none⟩) nb nb)) (fun k hk => by simp [Value.ownBlock] at hk; subst hk; intro hh; simp at hh; omega)
    have o2 := OwnG.grown o1 (grown_cellG _ (w.heap.size + 1) 0 (.slice (some ⟨g, 0, none⟩) np np)) (fun k hk => by simp [Value.ownBlock] at hk; subst hk; intro hh; simp at hh; omega)
    have o3 := OwnG.grown o2 (grown_cellG _ (w.heap.size + 1) 1 (.slice (some ⟨h, 0, none⟩) nb nb)) (fun k hk => by simp [Value.ownBlock] at hk; subst hk; intro hh; simp at hh; omega)
    exact o3.mono (by simp; omega)
  · have o1 := OwnG.grown OH.out (grown_cellG w2 (w.heap.size + 1 + 1) 1 (.slice (some ⟨h, 0, none⟩) nb nb)) (fun k hk => by simp [Value.ownBlock] at hk; subst hk; intro hh; simp at hh; omega)
    have o2 := OwnG.grown o1 (grown_cellG _ (w.heap.size + 1) 0 (.slice (some ⟨g, 0, none⟩) np np)) (fun k hk => by simp [Value.ownBlock] at hk; subst hk; intro hh; simp at hh; omega)
    have o3 := OwnG.grown o2 (grown_cellG _ (w.heap.size + 1) 1 (.slice (some ⟨h, 0, none⟩) nb nb)) (fun k hk => by simp [Value.ownBlock] at hk; subst hk; intro hh; simp at hh; omega)
    exact o3.mono (by simp; omega)
  · repeat (first | with_reducible exact Below.refl _ _ | (with_reducible refine Below.drew ?_) | (with_reducible refine Below.alloc ?_ ?_ _; rotate_left; (focus (first | omega | (simp; omega) | (simp; done)))) | (with_reducible refine Below.setCell ?_ ?_ _; rotate_left; (focus (first | omega | (simp; omega) | (simp; done)))) | (with_reducible refine Below.trans ?_ (hb2.mono ?_); rotate_left; (focus (first | omega | (simp; omega) | (simp; done)))) | (with_reducible refine Below.trans ?_ (hb1.mono ?_); rotate_left; (focus (first | omega | (simp; omega) | (simp; done)))))

end Go.Proofs.Ytlbjmmmadoehbaa
