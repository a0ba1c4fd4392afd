/-
  What prefixes_card needs, part 1.
-/
import Derived.Test.YtadhapggcifldaaGreatDoorRows
import Derived.Deep.RegionHeld3
import Derived.WalkKit
import Derived.WalkSpells
import Derived.WalkLawsBesides
import Derived.Laws.Externs
import Derived.ProofKit
import Derived.Lib.SmallJoins
import Derived.Shelf.Spec.BitsCarry
import Derived.Deep.RegionWith
import Derived.Deep.DeepCutAuto
import Derived.Deep.AppendSrc
import Derived.OwnWalk
import Derived.Lib.ItoaMem
import Derived.Deep.QuietTactic
import Derived.BigQuiet
import Derived.Lib.Strings
namespace Go.Proofs.YtadhapggcifldaaGreatDoor

/-- What lies in the slots behind an operation. -/
theorem pa : (∀ (a : Act) (d : Tmp) (v : Value), a.put (some d) v = { a with tmps := a.tmps.setIfInBounds d v }) ∧ (∀ (a : Act) (v : Value), a.put none v = a) ∧
    (∀ (l : List Value) (i : Nat) (v : Value), l.toArray.setIfInBounds i v = (l.set i v).toArray) ∧ (∀ (x v : Value) (l : List Value), (x :: l).set 0 v = v :: l) ∧ (∀ (x v : Value) (l : List Value) (n : Nat), (x :: l).set (n + 1) v = x :: l.set n v) ∧
    (∀ (l : List Bool) (i : Nat) (v : Bool), l.toArray.setIfInBounds i v = (l.set i v).toArray) ∧ (∀ (x v : Bool) (l : List Bool), (x :: l).set 0 v = v :: l) ∧ (∀ (x v : Bool) (l : List Bool) (n : Nat), (x :: l).set (n + 1) v = x :: l.set n v) :=
  ⟨fun _ _ _ => rfl, fun _ _ => rfl, fun _ _ _ => List.setIfInBounds_toArray .., fun _ _ _ => rfl, fun _ _ _ _ => rfl, fun _ _ _ => List.setIfInBounds_toArray .., fun _ _ _ => rfl, fun _ _ _ _ => rfl⟩
theorem tkA {P : Program} {ops : Array Oper} {Q : Exit → Act → World → Prop} {md : Region.Mode} {S : World → Prop} (i d : Nat) {op : Op} {ty : TypeId} {ps : String} {af : Array Edge} {gd : Option (Nat × Bool)} {v : Value} {fuel : Nat} {listed : Array Bool} {a : Act} {w : World} (hi : ops[i]? = some (⟨some d, op, ty, ps, af, gd⟩ : Oper))
    (hb : (Region.noSelect ops && (Region.free md ops listed i && (Region.ready md ops listed).contains i)) = true) (hQ : ∀ c a w, Q (.panic c) (a.put (some d) v) w → Q (.panic c) a w)
    (hw : Region.wanted (⟨some d, op, ty, ps, af, gd⟩ : Oper) (yielded ops a.tmps) = true) (hy : ∀ w, S w → (execOp a.eval (⟨some d, op, ty, ps, af, gd⟩ : Oper)).run P w = .ok (.value v) w) (hS : S w)
    (h : wpAnyH P md ops Q S fuel (listed.setIfInBounds i true) (a.put (some d) v) w) : wpAnyH P md ops Q S (fuel + 1) listed a w := by
  rw [Bool.and_eq_true, Bool.and_eq_true] at hb
  exact wpAnyH_take hi hb.1 hb.2.1 hb.2.2 hQ (Or.inl ⟨hw, hy⟩) hS h

end Go.Proofs.YtadhapggcifldaaGreatDoor
namespace Go.Proofs.YtadhapggcifldaaGreatDoor
open Go.RowKit

def okB (s : Bool) (h l : Int) : Bool := s || (h == 0 && (decide (0 ≤ l) && decide (l ≤ 4294967295)))

theorem okB_t (h l : Int) : okB true h l = true := by simp [okB]
theorem okB_yes (l : Int) (h0 : 0 ≤ l) (h1 : l ≤ 4294967295) : okB false 0 l = true := by simp [okB, h0, h1]
theorem okB_h (h l : Int) (hh : (h == 0) = false) : okB false h l = false := by simp [okB, hh]
theorem okB_lo (l : Int) (h0 : ¬ 0 ≤ l) : okB false 0 l = false := by simp [okB, h0]
theorem okB_hi (l : Int) (h1 : ¬ l ≤ 4294967295) : okB false 0 l = false := by simp [okB, h1]

set_option maxHeartbeats 400000 in
theorem sAddrOk_any (s : Bool) (h l : Int) (w : World) :
    Calls Tryz.prog 18 #[.agg #[.bool s, .int .i64 h, .int .i64 l]] w fun e w' => e = .returned (.bool (okB s h l)) ∧ Below w.heap.size w w' := by
  cases s
  · by_cases hh : h = 0
    · subst hh
      by_cases h0 : 0 ≤ l
      · by_cases h1 : l ≤ 4294967295
        · rw [okB_yes l h0 h1]
          go_enter Tryz.func18, Tryz.ntmps18
          go_wp2
          go_ret
          exact ⟨rfl, (Below.refl _ _).alloc (Nat.le_refl _) _⟩
        · rw [okB_hi l h1]
          go_enter Tryz.func18, Tryz.ntmps18
          go_wp2
          go_ret
          exact ⟨rfl, (Below.refl _ _).alloc (Nat.le_refl _) _⟩
      · rw [okB_lo l h0]
        go_enter Tryz.func18, Tryz.ntmps18
        go_wp2
        go_ret
        exact ⟨rfl, (Below.refl _ _).alloc (Nat.le_refl _) _⟩
    · have hb : (h == 0) = false := by simp [hh]
      rw [okB_h h l hb]
      clear hh
      go_enter Tryz.func18, Tryz.ntmps18
      go_wp2
      go_ret
      exact ⟨rfl, (Below.refl _ _).alloc (Nat.le_refl _) _⟩
  · rw [okB_t]
    go_enter Tryz.func18, Tryz.ntmps18
    go_wp2
    go_ret
    exact ⟨rfl, (Below.refl _ _).alloc (Nat.le_refl _) _⟩

set_option maxHeartbeats 400000 in
theorem iAddrOk_any (s : Bool) (h l : Int) (w : World) :
    Calls Tryz.prog 36 #[.agg #[.bool s, .int .i64 h, .int .i64 l]] w fun e w' => e = .returned (.bool (okB s h l)) ∧ Below w.heap.size w w' := by
  cases s
  · by_cases hh : h = 0
    · subst hh
      by_cases h0 : 0 ≤ l
      · by_cases h1 : l ≤ 4294967295
        · rw [okB_yes l h0 h1]
          go_enter Tryz.func36, Tryz.ntmps36
          go_wp2
          go_ret
          exact ⟨rfl, (Below.refl _ _).alloc (Nat.le_refl _) _⟩
        · rw [okB_hi l h1]
          go_enter Tryz.func36, Tryz.ntmps36
          go_wp2
          go_ret
          exact ⟨rfl, (Below.refl _ _).alloc (Nat.le_refl _) _⟩
      · rw [okB_lo l h0]
        go_enter Tryz.func36, Tryz.ntmps36
        go_wp2
        go_ret
        exact ⟨rfl, (Below.refl _ _).alloc (Nat.le_refl _) _⟩
    · have hb : (h == 0) = false := by simp [hh]
      rw [okB_h h l hb]
      clear hh
      go_enter Tryz.func36, Tryz.ntmps36
      go_wp2
      go_ret
      exact ⟨rfl, (Below.refl _ _).alloc (Nat.le_refl _) _⟩
  · rw [okB_t]
    go_enter Tryz.func36, Tryz.ntmps36
    go_wp2
    go_ret
    exact ⟨rfl, (Below.refl _ _).alloc (Nat.le_refl _) _⟩

/-- What lay below n reads as it did, behind whatever only makes memory from n on: two rules for a walk. -/
theorem olds {W w1 : World} {n : Nat} (hb : Below n W w1) :
    (∀ b o, b < n → w1.cell? ⟨b, o, none⟩ = W.cell? ⟨b, o, none⟩) ∧ (∀ b o, b < n → w1.frozen? ⟨b, o, none⟩ = W.frozen? ⟨b, o, none⟩) :=
  ⟨fun _ _ h => hb.cell h, fun _ _ h => hb.frozen h⟩

theorem olds_k {K : Prop} {W w1 : World} {B : Nat} (n : Nat) (hb : Below B W w1) (hn : n ≤ B)
    (k : (∀ b o, b < n → w1.cell? ⟨b, o, none⟩ = W.cell? ⟨b, o, none⟩) → (∀ b o, b < n → w1.frozen? ⟨b, o, none⟩ = W.frozen? ⟨b, o, none⟩) → K) : K :=
  k (olds (hb.mono hn)).1 (olds (hb.mono hn)).2

theorem ltk {K : Prop} (a b : Nat) (h : a < b) (k : a < b → K) : K := k h

end Go.Proofs.YtadhapggcifldaaGreatDoor
namespace Go.Proofs.YtadhapggcifldaaGreatDoor
open Go.RowKit

/-- (S, H, L) is the address (s, h, l) where that is right, else the zero one. -/
def Nrm (s : Bool) (h l : Int) (S : Bool) (H L : Int) : Prop := (okB s h l = true ∧ S = s ∧ H = h ∧ L = l) ∨ (okB s h l = false ∧ S = false ∧ H = 0 ∧ L = 0)

set_option maxHeartbeats 400000 in
theorem l1Addr_any (s : Bool) (h l : Int) (S : Bool) (H L : Int) (hz : Nrm s h l S H L) (w : World) :
    Calls Tryz.prog 51 #[.agg #[.bool s, .int .i64 h, .int .i64 l]] w fun e w' => e = .returned (.agg #[.bool S, .int .i64 H, .int .i64 L]) ∧ Below w.heap.size w w' := by
  rcases hz with ⟨ok, rfl, rfl, rfl⟩ | ⟨ok, rfl, rfl, rfl⟩
  · have HK : Hid (okB S H L = true) := ok
    clear ok
    go_enter Tryz.func51, Tryz.ntmps51
    go_wp2_with fail
    refine (sAddrOk_any S H L _).mono ?_
    rw [HK.out]
    rintro e w1 ⟨rfl, hb⟩
    obtain ⟨hc, hf⟩ := olds (n := w.heap.size + 2) (hb.mono (by simp))
    have hz := hb.size
    simp at hz
    go_wp2
    exact bodyPost_ret (v := .agg #[.bool S, .int .i64 H, .int .i64 L]) (by simp [results, Tryz.results51, go_sem, hc]) rfl ⟨rfl, (((((Below.refl _ w).alloc (Nat.le_refl _) _).alloc (by simp) _).trans (hb.mono (by simp; omega))).setCell (by simp) _).setCell (by simp) _ |>.setCell (by simp) _⟩
  · have HK : Hid (okB s h l = false) := ok
    clear ok
    go_enter Tryz.func51, Tryz.ntmps51
    go_wp2_with fail
    refine (sAddrOk_any s h l _).mono ?_
    rw [HK.out]
    rintro e w1 ⟨rfl, hb⟩
    obtain ⟨hc, hf⟩ := olds (n := w.heap.size + 2) (hb.mono (by simp))
    have hz := hb.size
    simp at hz
    go_wp2
    exact bodyPost_ret (v := .agg #[.bool false, .int .i64 0, .int .i64 0]) (by simp [results, Tryz.results51, go_sem, hc]) rfl ⟨rfl, (((((Below.refl _ w).alloc (Nat.le_refl _) _).alloc (by simp) _).trans (hb.mono (by simp; omega))).setCell (by simp) _).setCell (by simp) _ |>.setCell (by simp) _⟩

set_option maxHeartbeats 400000 in
theorem addrOrZero_any (s : Bool) (h l : Int) (S : Bool) (H L : Int) (hz : Nrm s h l S H L) (w : World) :
    Calls Tryz.prog 33 #[.agg #[.bool s, .int .i64 h, .int .i64 l]] w fun e w' => e = .returned (.agg #[.bool S, .int .i64 H, .int .i64 L]) ∧ Below w.heap.size w w' := by
  rcases hz with ⟨ok, rfl, rfl, rfl⟩ | ⟨ok, rfl, rfl, rfl⟩
  · have HK : Hid (okB S H L = true) := ok
    clear ok
    go_enter Tryz.func33, Tryz.ntmps33
    go_wp2_with fail
    refine (iAddrOk_any S H L _).mono ?_
    rw [HK.out]
    rintro e w1 ⟨rfl, hb⟩
    obtain ⟨hc, hf⟩ := olds (n := w.heap.size + 2) (hb.mono (by simp))
    have hz := hb.size
    simp at hz
    go_wp2
    exact bodyPost_ret (v := .agg #[.bool S, .int .i64 H, .int .i64 L]) (by simp [results, Tryz.results33, go_sem, hc]) rfl ⟨rfl, (((((Below.refl _ w).alloc (Nat.le_refl _) _).alloc (by simp) _).trans (hb.mono (by simp; omega))).setCell (by simp) _).setCell (by simp) _ |>.setCell (by simp) _⟩
  · have HK : Hid (okB s h l = false) := ok
    clear ok
    go_enter Tryz.func33, Tryz.ntmps33
    go_wp2_with fail
    refine (iAddrOk_any s h l _).mono ?_
    rw [HK.out]
    rintro e w1 ⟨rfl, hb⟩
    obtain ⟨hc, hf⟩ := olds (n := w.heap.size + 2) (hb.mono (by simp))
    have hz := hb.size
    simp at hz
    go_wp2
    exact bodyPost_ret (v := .agg #[.bool false, .int .i64 0, .int .i64 0]) (by simp [results, Tryz.results33, go_sem, hc]) rfl ⟨rfl, (((((Below.refl _ w).alloc (Nat.le_refl _) _).alloc (by simp) _).trans (hb.mono (by simp; omega))).setCell (by simp) _).setCell (by simp) _ |>.setCell (by simp) _⟩

end Go.Proofs.YtadhapggcifldaaGreatDoor

namespace Go.Proofs.YtadhapggcifldaaGreatDoor
open Go.RowKit

/-- Less, as numbers without a sign. -/
def ult (a b : Int) : Bool := decide (IntKind.u64.wrap a < IntKind.u64.wrap b)

theorem l1Less_any (a b : Int) (w : World) :
    Calls Tryz.prog 52 #[.int .i64 a, .int .i64 b] w fun e w' => e = .returned (.bool (ult a b)) ∧ w' = w := by
  go_enter Tryz.func52, Tryz.ntmps52
  go_wp2
  go_ret
  exact ⟨rfl, rfl⟩

end Go.Proofs.YtadhapggcifldaaGreatDoor
namespace Go.Proofs.YtadhapggcifldaaGreatDoor
open Go.RowKit

def addS (x y c : Int) : Int := (x + y + c) % 18446744073709551616
def addC (x y c : Int) : Int := (x + y + c) / 18446744073709551616
/-- A word of 64 bits without a sign; a carry. -/
def Word (x : Int) : Prop := 0 ≤ x ∧ x < 18446744073709551616
def Bit (x : Int) : Prop := 0 ≤ x ∧ x ≤ 1

theorem Bit0 : Bit 0 := by unfold Bit; omega
theorem Word0 : Word 0 := by unfold Word; omega
theorem Word_u (x : Int) : Word (IntKind.u64.wrap x) := by unfold Word; rw [IntKind.wrap_u64]; omega
theorem add64 (x y c : Int) (hx : Word x) (hy : Word y) (hc : Bit c) (w : World) :
    (callFunc 50 #[.int .u64 x, .int .u64 y, .int .u64 c]).run Tryz.prog w = .ok (.value (.tuple #[.int .u64 (addS x y c), .int .u64 (addC x y c)])) w := by
  rw [run_callFunc_extern Tryz.func50 (by kernel_rfl) (by kernel_rfl) (by kernel_rfl) (e := add64Entry) (by kernel_rfl), run_add64 x y c hx.1 hy.1 hc.1 hc.2]
  simp only [Result.andThen, addS, addC]

set_option maxHeartbeats 400000 in
theorem iAddTo_neg (s : Bool) (h l n : Int) (hn : n < 0) (w : World) :
    Calls Tryz.prog 28 #[.agg #[.bool s, .int .i64 h, .int .i64 l], .int .i64 n] w fun e w' => e = .returned (.tuple #[.agg #[.bool false, .int .i64 0, .int .i64 0], .bool false]) ∧ Below w.heap.size w w' := by
  go_enter Tryz.func28, Tryz.ntmps28
  go_wp2_with fail
  refine bodyPost_ret (v := .tuple #[.agg #[.bool false, .int .i64 0, .int .i64 0], .bool false]) (by simp [results, Tryz.results28, go_sem]) rfl ⟨rfl, ?_⟩
  exact ((Below.refl _ w).alloc (Nat.le_refl _) _).alloc (by simp) _

set_option maxHeartbeats 1000000 in
theorem iAddTo_past (s : Bool) (h l n : Int) (S : Bool) (H L lo c hi p : Int) (hz : Nrm s h l S H L) (hn : 0 ≤ n)
    (a1 : Hid (∀ wx, (callFunc 50 #[.int .u64 (IntKind.u64.wrap L), .int .u64 (IntKind.u64.wrap n), .int .u64 0]).run Tryz.prog wx = .ok (.value (.tuple #[.int .u64 lo, .int .u64 c])) wx))
    (a2 : Hid (∀ wx, (callFunc 50 #[.int .u64 (IntKind.u64.wrap H), .int .u64 0, .int .u64 c]).run Tryz.prog wx = .ok (.value (.tuple #[.int .u64 hi, .int .u64 p])) wx))
    (hp : (p != 0) = true) (w : World) :
    Calls Tryz.prog 28 #[.agg #[.bool s, .int .i64 h, .int .i64 l], .int .i64 n] w fun e w' => e = .returned (.tuple #[.agg #[.bool false, .int .i64 0, .int .i64 0], .bool false]) ∧ Below w.heap.size w w' := by
  go_enter Tryz.func28, Tryz.ntmps28
  go_wp2_with fail
  refine (addrOrZero_any _ _ _ _ _ _ hz _).mono ?_
  rintro e w1 ⟨rfl, hb⟩
  obtain ⟨hc, hf⟩ := olds (n := w.heap.size + 2) (hb.mono (by simp))
  have hz1 : w.heap.size + 1 < w1.heap.size := by have := hb.size; simp at this; omega
  have hz0 : w.heap.size < w1.heap.size := by omega
  have b1 : Below w.heap.size w w1 := (((Below.refl _ w).alloc (Nat.le_refl _) _).alloc (by simp) _).trans (hb.mono (by simp; omega))
  go_wp2_with (first | simp only [a1.out] | simp only [a2.out])
  refine bodyPost_ret (v := .tuple #[.agg #[.bool false, .int .i64 0, .int .i64 0], .bool false]) (by simp [results, Tryz.results28, go_sem, hc, hz1]) rfl ⟨rfl, ?_⟩
  repeat (first | with_reducible exact b1 | (with_reducible refine Below.setCell ?_ (by first | omega | (simp; done) | (simp; omega)) _) | (with_reducible refine Below.alloc ?_ (by first | omega | (simp; done) | (simp; omega)) _))

set_option maxHeartbeats 1000000 in
theorem iAddTo_bad (s : Bool) (h l n : Int) (S : Bool) (H L lo c hi p : Int) (hz : Nrm s h l S H L) (hn : 0 ≤ n)
    (a1 : Hid (∀ wx, (callFunc 50 #[.int .u64 (IntKind.u64.wrap L), .int .u64 (IntKind.u64.wrap n), .int .u64 0]).run Tryz.prog wx = .ok (.value (.tuple #[.int .u64 lo, .int .u64 c])) wx))
    (a2 : Hid (∀ wx, (callFunc 50 #[.int .u64 (IntKind.u64.wrap H), .int .u64 0, .int .u64 c]).run Tryz.prog wx = .ok (.value (.tuple #[.int .u64 hi, .int .u64 p])) wx))
    (hp : (p != 0) = false) (hk : Hid (okB S (wrap64 hi) (wrap64 lo) = false)) (w : World) :
    Calls Tryz.prog 28 #[.agg #[.bool s, .int .i64 h, .int .i64 l], .int .i64 n] w fun e w' => e = .returned (.tuple #[.agg #[.bool false, .int .i64 0, .int .i64 0], .bool false]) ∧ Below w.heap.size w w' := by
  go_enter Tryz.func28, Tryz.ntmps28
  go_wp2_with fail
  refine (addrOrZero_any _ _ _ _ _ _ hz _).mono ?_
  rintro e w1 ⟨rfl, hb⟩
  obtain ⟨hc, hf⟩ := olds (n := w.heap.size + 2) (hb.mono (by simp))
  have hz1 : w.heap.size + 1 < w1.heap.size := by have := hb.size; simp at this; omega
  have hz0 : w.heap.size < w1.heap.size := by omega
  have b1 : Below w.heap.size w w1 := (((Below.refl _ w).alloc (Nat.le_refl _) _).alloc (by simp) _).trans (hb.mono (by simp; omega))
  go_wp2_with (first | simp only [a1.out] | simp only [a2.out])
  refine (iAddrOk_any _ _ _ _).mono ?_
  rw [hk.out]
  rintro e w2 ⟨rfl, hb2⟩
  obtain ⟨hc2, hf2⟩ := olds (n := w1.heap.size + 1) (hb2.mono (by simp))
  have y0 : w.heap.size < w1.heap.size + 1 := by omega
  have y1 : w.heap.size + 1 < w1.heap.size + 1 := by omega
  have hz2 : w1.heap.size < w2.heap.size := by have := hb2.size; simp at this; omega
  have b2 : Below w.heap.size w w2 := by
    refine Below.trans ?_ (hb2.mono (by simp; omega))
    repeat (first | with_reducible exact b1 | (with_reducible refine Below.setCell ?_ (by first | omega | (simp; done) | (simp; omega)) _) | (with_reducible refine Below.alloc ?_ (by first | omega | (simp; done) | (simp; omega)) _))
  go_wp2_with fail
  refine bodyPost_ret (v := .tuple #[.agg #[.bool false, .int .i64 0, .int .i64 0], .bool false]) (by simp [results, Tryz.results28, go_sem, hc2, hc, hz1, y1]) rfl ⟨rfl, ?_⟩
  repeat (first | with_reducible exact b2 | (with_reducible refine Below.setCell ?_ (by first | omega | (simp; done) | (simp; omega)) _) | (with_reducible refine Below.alloc ?_ (by first | omega | (simp; done) | (simp; omega)) _))

set_option maxHeartbeats 1000000 in
theorem iAddTo_ok (s : Bool) (h l n : Int) (S : Bool) (H L lo c hi p : Int) (hz : Nrm s h l S H L) (hn : 0 ≤ n)
    (a1 : Hid (∀ wx, (callFunc 50 #[.int .u64 (IntKind.u64.wrap L), .int .u64 (IntKind.u64.wrap n), .int .u64 0]).run Tryz.prog wx = .ok (.value (.tuple #[.int .u64 lo, .int .u64 c])) wx))
    (a2 : Hid (∀ wx, (callFunc 50 #[.int .u64 (IntKind.u64.wrap H), .int .u64 0, .int .u64 c]).run Tryz.prog wx = .ok (.value (.tuple #[.int .u64 hi, .int .u64 p])) wx))
    (hp : (p != 0) = false) (hk : Hid (okB S (wrap64 hi) (wrap64 lo) = true)) (w : World) :
    Calls Tryz.prog 28 #[.agg #[.bool s, .int .i64 h, .int .i64 l], .int .i64 n] w fun e w' => e = .returned (.tuple #[.agg #[.bool S, .int .i64 (wrap64 hi), .int .i64 (wrap64 lo)], .bool true]) ∧ Below w.heap.size w w' := by
  go_enter Tryz.func28, Tryz.ntmps28
  go_wp2_with fail
  refine (addrOrZero_any _ _ _ _ _ _ hz _).mono ?_
  rintro e w1 ⟨rfl, hb⟩
  obtain ⟨hc, hf⟩ := olds (n := w.heap.size + 2) (hb.mono (by simp))
  have hz1 : w.heap.size + 1 < w1.heap.size := by have := hb.size; simp at this; omega
  have hz0 : w.heap.size < w1.heap.size := by omega
  have b1 : Below w.heap.size w w1 := (((Below.refl _ w).alloc (Nat.le_refl _) _).alloc (by simp) _).trans (hb.mono (by simp; omega))
  go_wp2_with (first | simp only [a1.out] | simp only [a2.out])
  refine (iAddrOk_any _ _ _ _).mono ?_
  rw [hk.out]
  rintro e w2 ⟨rfl, hb2⟩
  obtain ⟨hc2, hf2⟩ := olds (n := w1.heap.size + 1) (hb2.mono (by simp))
  have y0 : w.heap.size < w1.heap.size + 1 := by omega
  have y1 : w.heap.size + 1 < w1.heap.size + 1 := by omega
  have hz2 : w1.heap.size < w2.heap.size := by have := hb2.size; simp at this; omega
  have b2 : Below w.heap.size w w2 := by
    refine Below.trans ?_ (hb2.mono (by simp; omega))
    repeat (first | with_reducible exact b1 | (with_reducible refine Below.setCell ?_ (by first | omega | (simp; done) | (simp; omega)) _) | (with_reducible refine Below.alloc ?_ (by first | omega | (simp; done) | (simp; omega)) _))
  go_wp2_with fail
  refine bodyPost_ret (v := .tuple #[.agg #[.bool S, .int .i64 (wrap64 hi), .int .i64 (wrap64 lo)], .bool true]) (by simp [results, Tryz.results28, go_sem, hc2, hc, hz1, y1]) rfl ⟨rfl, ?_⟩
  repeat (first | with_reducible exact b2 | (with_reducible refine Below.setCell ?_ (by first | omega | (simp; done) | (simp; omega)) _) | (with_reducible refine Below.alloc ?_ (by first | omega | (simp; done) | (simp; omega)) _))

end Go.Proofs.YtadhapggcifldaaGreatDoor
namespace Go.Proofs.YtadhapggcifldaaGreatDoor
open Go.RowKit

set_option maxHeartbeats 1000000 in
theorem sAddTo_neg (s : Bool) (h l n : Int) (S : Bool) (H L : Int) (hz : Nrm s h l S H L) (hn : n < 0) (w : World) :
    Calls Tryz.prog 30 #[.agg #[.bool s, .int .i64 h, .int .i64 l], .int .i64 n] w fun e w' => e = .returned (.tuple #[.agg #[.bool false, .int .i64 0, .int .i64 0], .bool false]) ∧ Below w.heap.size w w' := by
  go_enter Tryz.func30, Tryz.ntmps30
  go_wp2_with fail
  refine (l1Addr_any _ _ _ _ _ _ hz _).mono ?_
  rintro e w1 ⟨rfl, hb⟩
  obtain ⟨hc, hf⟩ := olds (n := w.heap.size + 2) (hb.mono (by simp))
  have hz1 : w.heap.size + 1 < w1.heap.size := by have := hb.size; simp at this; omega
  have hz0 : w.heap.size < w1.heap.size := by omega
  have b1 : Below w.heap.size w w1 := (((Below.refl _ w).alloc (Nat.le_refl _) _).alloc (by simp) _).trans (hb.mono (by simp; omega))
  go_wp2_with fail
  refine bodyPost_ret (v := .tuple #[.agg #[.bool false, .int .i64 0, .int .i64 0], .bool false]) (by simp [results, Tryz.results30, go_sem, hc]) rfl ⟨rfl, ?_⟩
  repeat (first | with_reducible exact b1 | (with_reducible refine Below.setCell ?_ (by first | omega | (simp; done) | (simp; omega)) _) | (with_reducible refine Below.alloc ?_ (by first | omega | (simp; done) | (simp; omega)) _))

set_option maxHeartbeats 1000000 in
theorem sAddTo_four (s : Bool) (h l n : Int) (H L : Int) (hz : Nrm s h l false H L) (h0 : 0 ≤ L) (h1 : L ≤ 4294967295) (hn : 0 ≤ n) (hn1 : n ≤ 9223372036854775807) (hle : n ≤ 4294967295 - L) (w : World) :
    Calls Tryz.prog 30 #[.agg #[.bool s, .int .i64 h, .int .i64 l], .int .i64 n] w fun e w' => e = .returned (.tuple #[.agg #[.bool false, .int .i64 H, .int .i64 (L + n)], .bool true]) ∧ Below w.heap.size w w' := by
  go_enter Tryz.func30, Tryz.ntmps30
  go_wp2_with fail
  refine (l1Addr_any _ _ _ _ _ _ hz _).mono ?_
  rintro e w1 ⟨rfl, hb⟩
  obtain ⟨hc, hf⟩ := olds (n := w.heap.size + 2) (hb.mono (by simp))
  have hz1 : w.heap.size + 1 < w1.heap.size := by have := hb.size; simp at this; omega
  have hz0 : w.heap.size < w1.heap.size := by omega
  have b1 : Below w.heap.size w w1 := (((Below.refl _ w).alloc (Nat.le_refl _) _).alloc (by simp) _).trans (hb.mono (by simp; omega))
  go_wp2_with fail
  refine bodyPost_ret (v := .tuple #[.agg #[.bool false, .int .i64 H, .int .i64 (L + n)], .bool true]) (by simp [results, Tryz.results30, go_sem, hc, hz1]) rfl ⟨rfl, ?_⟩
  repeat (first | with_reducible exact b1 | (with_reducible refine Below.setCell ?_ (by first | omega | (simp; done) | (simp; omega)) _) | (with_reducible refine Below.alloc ?_ (by first | omega | (simp; done) | (simp; omega)) _))

set_option maxHeartbeats 1000000 in
theorem sAddTo_fourno (s : Bool) (h l n : Int) (H L : Int) (hz : Nrm s h l false H L) (h0 : 0 ≤ L) (h1 : L ≤ 4294967295) (hn : 0 ≤ n) (hn1 : n ≤ 9223372036854775807) (hle : 4294967295 - L < n) (w : World) :
    Calls Tryz.prog 30 #[.agg #[.bool s, .int .i64 h, .int .i64 l], .int .i64 n] w fun e w' => e = .returned (.tuple #[.agg #[.bool false, .int .i64 0, .int .i64 0], .bool false]) ∧ Below w.heap.size w w' := by
  go_enter Tryz.func30, Tryz.ntmps30
  go_wp2_with fail
  refine (l1Addr_any _ _ _ _ _ _ hz _).mono ?_
  rintro e w1 ⟨rfl, hb⟩
  obtain ⟨hc, hf⟩ := olds (n := w.heap.size + 2) (hb.mono (by simp))
  have hz1 : w.heap.size + 1 < w1.heap.size := by have := hb.size; simp at this; omega
  have hz0 : w.heap.size < w1.heap.size := by omega
  have b1 : Below w.heap.size w w1 := (((Below.refl _ w).alloc (Nat.le_refl _) _).alloc (by simp) _).trans (hb.mono (by simp; omega))
  go_wp2_with fail
  refine bodyPost_ret (v := .tuple #[.agg #[.bool false, .int .i64 0, .int .i64 0], .bool false]) (by simp [results, Tryz.results30, go_sem, hc, hz1]) rfl ⟨rfl, ?_⟩
  repeat (first | with_reducible exact b1 | (with_reducible refine Below.setCell ?_ (by first | omega | (simp; done) | (simp; omega)) _) | (with_reducible refine Below.alloc ?_ (by first | omega | (simp; done) | (simp; omega)) _))

set_option maxHeartbeats 1000000 in
theorem sAddTo_six (s : Bool) (h l n : Int) (H L : Int) (hz : Nrm s h l true H L) (hn : 0 ≤ n) (hu : Hid (ult (wrap64 (IntKind.u64.wrap (IntKind.u64.wrap L + IntKind.u64.wrap n))) L = false)) (w : World) :
    Calls Tryz.prog 30 #[.agg #[.bool s, .int .i64 h, .int .i64 l], .int .i64 n] w fun e w' => e = .returned (.tuple #[.agg #[.bool true, .int .i64 H, .int .i64 (wrap64 (IntKind.u64.wrap (IntKind.u64.wrap L + IntKind.u64.wrap n)))], .bool true]) ∧ Below w.heap.size w w' := by
  go_enter Tryz.func30, Tryz.ntmps30
  go_wp2_with fail
  refine (l1Addr_any _ _ _ _ _ _ hz _).mono ?_
  rintro e w1 ⟨rfl, hb⟩
  obtain ⟨hc, hf⟩ := olds (n := w.heap.size + 2) (hb.mono (by simp))
  have hz1 : w.heap.size + 1 < w1.heap.size := by have := hb.size; simp at this; omega
  have hz0 : w.heap.size < w1.heap.size := by omega
  have b1 : Below w.heap.size w w1 := (((Below.refl _ w).alloc (Nat.le_refl _) _).alloc (by simp) _).trans (hb.mono (by simp; omega))
  go_wp2_with fail
  refine (l1Less_any _ _ _).mono ?_
  rw [hu.out]
  rintro e w2 ⟨rfl, rfl⟩
  go_wp2_with fail
  refine bodyPost_ret (v := .tuple #[.agg #[.bool true, .int .i64 H, .int .i64 (wrap64 (IntKind.u64.wrap (IntKind.u64.wrap L + IntKind.u64.wrap n)))], .bool true]) (by simp [results, Tryz.results30, go_sem, hc, hz1]) rfl ⟨rfl, ?_⟩
  repeat (first | with_reducible exact b1 | (with_reducible refine Below.setCell ?_ (by first | omega | (simp; done) | (simp; omega)) _) | (with_reducible refine Below.alloc ?_ (by first | omega | (simp; done) | (simp; omega)) _))

set_option maxHeartbeats 1000000 in
theorem sAddTo_sixc (s : Bool) (h l n : Int) (H L : Int) (hz : Nrm s h l true H L) (hn : 0 ≤ n) (hu : Hid (ult (wrap64 (IntKind.u64.wrap (IntKind.u64.wrap L + IntKind.u64.wrap n))) L = true)) (hg : ((wrap64 (IntKind.u64.wrap (IntKind.u64.wrap H + 1))) == 0) = false) (w : World) :
    Calls Tryz.prog 30 #[.agg #[.bool s, .int .i64 h, .int .i64 l], .int .i64 n] w fun e w' => e = .returned (.tuple #[.agg #[.bool true, .int .i64 (wrap64 (IntKind.u64.wrap (IntKind.u64.wrap H + 1))), .int .i64 (wrap64 (IntKind.u64.wrap (IntKind.u64.wrap L + IntKind.u64.wrap n)))], .bool true]) ∧ Below w.heap.size w w' := by
  go_enter Tryz.func30, Tryz.ntmps30
  go_wp2_with fail
  refine (l1Addr_any _ _ _ _ _ _ hz _).mono ?_
  rintro e w1 ⟨rfl, hb⟩
  obtain ⟨hc, hf⟩ := olds (n := w.heap.size + 2) (hb.mono (by simp))
  have hz1 : w.heap.size + 1 < w1.heap.size := by have := hb.size; simp at this; omega
  have hz0 : w.heap.size < w1.heap.size := by omega
  have b1 : Below w.heap.size w w1 := (((Below.refl _ w).alloc (Nat.le_refl _) _).alloc (by simp) _).trans (hb.mono (by simp; omega))
  go_wp2_with fail
  refine (l1Less_any _ _ _).mono ?_
  rw [hu.out]
  rintro e w2 ⟨rfl, rfl⟩
  go_wp2_with fail
  refine bodyPost_ret (v := .tuple #[.agg #[.bool true, .int .i64 (wrap64 (IntKind.u64.wrap (IntKind.u64.wrap H + 1))), .int .i64 (wrap64 (IntKind.u64.wrap (IntKind.u64.wrap L + IntKind.u64.wrap n)))], .bool true]) (by simp [results, Tryz.results30, go_sem, hc, hz1]) rfl ⟨rfl, ?_⟩
  repeat (first | with_reducible exact b1 | (with_reducible refine Below.setCell ?_ (by first | omega | (simp; done) | (simp; omega)) _) | (with_reducible refine Below.alloc ?_ (by first | omega | (simp; done) | (simp; omega)) _))

set_option maxHeartbeats 1000000 in
theorem sAddTo_sixno (s : Bool) (h l n : Int) (H L : Int) (hz : Nrm s h l true H L) (hn : 0 ≤ n) (hu : Hid (ult (wrap64 (IntKind.u64.wrap (IntKind.u64.wrap L + IntKind.u64.wrap n))) L = true)) (hg : ((wrap64 (IntKind.u64.wrap (IntKind.u64.wrap H + 1))) == 0) = true) (w : World) :
    Calls Tryz.prog 30 #[.agg #[.bool s, .int .i64 h, .int .i64 l], .int .i64 n] w fun e w' => e = .returned (.tuple #[.agg #[.bool false, .int .i64 0, .int .i64 0], .bool false]) ∧ Below w.heap.size w w' := by
  go_enter Tryz.func30, Tryz.ntmps30
  go_wp2_with fail
  refine (l1Addr_any _ _ _ _ _ _ hz _).mono ?_
  rintro e w1 ⟨rfl, hb⟩
  obtain ⟨hc, hf⟩ := olds (n := w.heap.size + 2) (hb.mono (by simp))
  have hz1 : w.heap.size + 1 < w1.heap.size := by have := hb.size; simp at this; omega
  have hz0 : w.heap.size < w1.heap.size := by omega
  have b1 : Below w.heap.size w w1 := (((Below.refl _ w).alloc (Nat.le_refl _) _).alloc (by simp) _).trans (hb.mono (by simp; omega))
  go_wp2_with fail
  refine (l1Less_any _ _ _).mono ?_
  rw [hu.out]
  rintro e w2 ⟨rfl, rfl⟩
  go_wp2_with fail
  refine bodyPost_ret (v := .tuple #[.agg #[.bool false, .int .i64 0, .int .i64 0], .bool false]) (by simp [results, Tryz.results30, go_sem, hc, hz1]) rfl ⟨rfl, ?_⟩
  repeat (first | with_reducible exact b1 | (with_reducible refine Below.setCell ?_ (by first | omega | (simp; done) | (simp; omega)) _) | (with_reducible refine Below.alloc ?_ (by first | omega | (simp; done) | (simp; omega)) _))

end Go.Proofs.YtadhapggcifldaaGreatDoor
namespace Go.Proofs.YtadhapggcifldaaGreatDoor
open Go.ChangeShapes Go.WideShapes Go.ChangeAt Go.RowKit Go.Joins

theorem Bit1 : Bit 1 := by unfold Bit; omega
theorem u64_u (x : Int) : IntKind.u64.wrap x = x % 18446744073709551616 := IntKind.wrap_u64 x

/-- What the two calls of the library's Add64 give. -/
theorem add_c0 (L n : Int) (h : IntKind.u64.wrap L + IntKind.u64.wrap n < 18446744073709551616) : addC (IntKind.u64.wrap L) (IntKind.u64.wrap n) 0 = 0 := by
  have := Word_u L; have := Word_u n; unfold Word at *; unfold addC; omega
theorem add_c1 (L n : Int) (h : ¬ IntKind.u64.wrap L + IntKind.u64.wrap n < 18446744073709551616) : addC (IntKind.u64.wrap L) (IntKind.u64.wrap n) 0 = 1 := by
  have := Word_u L; have := Word_u n; unfold Word at *; unfold addC; omega
theorem lo_eq (L n : Int) : wrap64 (addS (IntKind.u64.wrap L) (IntKind.u64.wrap n) 0) = wrap64 (IntKind.u64.wrap (IntKind.u64.wrap L + IntKind.u64.wrap n)) := by
  rw [u64_u (_ + _)]; simp only [addS, Int.add_zero]
theorem less_0 (L n : Int) (h : IntKind.u64.wrap L + IntKind.u64.wrap n < 18446744073709551616) : ult (wrap64 (IntKind.u64.wrap (IntKind.u64.wrap L + IntKind.u64.wrap n))) L = false := by
  have h1 := Word_u L; have h2 := Word_u n
  unfold ult Word at *
  generalize IntKind.u64.wrap L = u at *
  generalize IntKind.u64.wrap n = v at *
  simp only [u64_u, wrap64, decide_eq_false_iff_not]
  omega
theorem less_1 (L n : Int) (h : ¬ IntKind.u64.wrap L + IntKind.u64.wrap n < 18446744073709551616) : ult (wrap64 (IntKind.u64.wrap (IntKind.u64.wrap L + IntKind.u64.wrap n))) L = true := by
  have h1 := Word_u L; have h2 := Word_u n
  unfold ult Word at *
  generalize IntKind.u64.wrap L = u at *
  generalize IntKind.u64.wrap n = v at *
  simp only [u64_u, wrap64, decide_eq_true_eq]
  omega
theorem hi_0 (H : Int) (wh : -9223372036854775808 ≤ H ∧ H ≤ 9223372036854775807) : wrap64 (addS (IntKind.u64.wrap H) 0 0) = H := by
  simp only [addS, u64_u, wrap64]; omega
theorem past_0 (H : Int) : (addC (IntKind.u64.wrap H) 0 0 != 0) = false := by
  have := Word_u H; unfold Word at this; rw [bne_eq_false_iff_eq]; unfold addC; omega
theorem hi_1 (H : Int) : wrap64 (addS (IntKind.u64.wrap H) 0 1) = wrap64 (IntKind.u64.wrap (IntKind.u64.wrap H + 1)) := by
  rw [u64_u (_ + _)]; simp only [addS, Int.add_zero]
theorem past_1 (H : Int) (h : (wrap64 (IntKind.u64.wrap (IntKind.u64.wrap H + 1)) == 0) = false) : (addC (IntKind.u64.wrap H) 0 1 != 0) = false := by
  have h1 := Word_u H
  unfold Word at *
  rw [beq_eq_false_iff_ne] at h
  rw [bne_eq_false_iff_eq]
  generalize IntKind.u64.wrap H = u at *
  simp only [u64_u, wrap64] at h
  unfold addC
  omega
theorem past_2 (H : Int) (h : (wrap64 (IntKind.u64.wrap (IntKind.u64.wrap H + 1)) == 0) = true) : (addC (IntKind.u64.wrap H) 0 1 != 0) = true := by
  have h1 := Word_u H
  unfold Word at *
  rw [beq_iff_eq] at h
  rw [bne_iff_ne]
  generalize IntKind.u64.wrap H = u at *
  simp only [u64_u, wrap64] at h
  unfold addC
  omega
theorem four_c (L n : Int) (h0 : 0 ≤ L) (h1 : L ≤ 4294967295) (hn : 0 ≤ n) (hn1 : n ≤ 9223372036854775807) : addC (IntKind.u64.wrap L) (IntKind.u64.wrap n) 0 = 0 := by
  simp only [u64_u]; unfold addC; omega
theorem four_ok (L n : Int) (h0 : 0 ≤ L) (hn : 0 ≤ n) (hle : n ≤ 4294967295 - L) : wrap64 (addS (IntKind.u64.wrap L) (IntKind.u64.wrap n) 0) = L + n := by
  simp only [addS, u64_u, wrap64]; omega
theorem four_no (L n : Int) (h0 : 0 ≤ L) (h1 : L ≤ 4294967295) (hn : 0 ≤ n) (hn1 : n ≤ 9223372036854775807) (hle : 4294967295 - L < n) :
    okB false 0 (wrap64 (addS (IntKind.u64.wrap L) (IntKind.u64.wrap n) 0)) = false := by
  simp only [okB, addS, u64_u, wrap64, Bool.false_or, beq_self_eq_true, Bool.true_and, Bool.and_eq_false_iff, decide_eq_false_iff_not]; omega
theorem four_yes (L n : Int) (h0 : 0 ≤ L) (hn : 0 ≤ n) (hle : n ≤ 4294967295 - L) : okB false 0 (L + n) = true := okB_yes _ (by omega) (by omega)

end Go.Proofs.YtadhapggcifldaaGreatDoor
namespace Go.Proofs.YtadhapggcifldaaGreatDoor
open Go.RowKit

/-- A word of 64 bits without a sign; a borrow. -/
def WordG (x : Int) : Prop := 0 ≤ x ∧ x < 18446744073709551616
def BitG (x : Int) : Prop := 0 ≤ x ∧ x ≤ 1
def subD (x y b : Int) : Int := (x - y - b) % 18446744073709551616
def subB (x y b : Int) : Int := if x < y + b then 1 else 0
theorem BitG0 : BitG 0 := by unfold BitG; omega
theorem WordG_u (x : Int) : WordG (IntKind.u64.wrap x) := by unfold WordG; rw [IntKind.wrap_u64]; omega
theorem subB_bit (x y b : Int) : BitG (subB x y b) := by unfold BitG subB; split <;> omega

theorem sub64 (x y b : Int) (hx : WordG x) (hy : WordG y) (hb : BitG b) (w : World) :
    (callFunc 53 #[.int .u64 x, .int .u64 y, .int .u64 b]).run Tryz.prog w = .ok (.value (.tuple #[.int .u64 (subD x y b), .int .u64 (subB x y b)])) w := by
  unfold WordG BitG at *
  obtain ⟨x, rfl⟩ := Int.eq_ofNat_of_zero_le hx.1
  obtain ⟨y, rfl⟩ := Int.eq_ofNat_of_zero_le hy.1
  obtain ⟨b, rfl⟩ := Int.eq_ofNat_of_zero_le hb.1
  rw [run_callFunc_extern Tryz.func53 (by kernel_rfl) (by kernel_rfl) (by kernel_rfl) (e := sub64Entry) (by kernel_rfl), run_sub64 x y b (by omega)]
  have e1 : (((x + 18446744073709551616 - y - b) % 18446744073709551616 : Nat) : Int) = subD x y b := by unfold subD; omega
  have e2 : ((if x < y + b then 1 else 0 : Nat) : Int) = subB x y b := by unfold subB; split <;> split <;> omega
  rw [e1, e2]
  rfl

set_option maxHeartbeats 2000000 in
theorem iGap_ok (s : Bool) (h l : Int) (s' : Bool) (h' l' : Int) (S : Bool) (H L H' L' lo bo hi be : Int) (hz : Nrm s h l S H L) (hz' : Nrm s' h' l' S H' L')
    (a1 : Hid (∀ wx, (callFunc 53 #[.int .u64 (IntKind.u64.wrap L'), .int .u64 (IntKind.u64.wrap L), .int .u64 0]).run Tryz.prog wx = .ok (.value (.tuple #[.int .u64 lo, .int .u64 bo])) wx))
    (a2 : Hid (∀ wx, (callFunc 53 #[.int .u64 (IntKind.u64.wrap H'), .int .u64 (IntKind.u64.wrap H), .int .u64 bo]).run Tryz.prog wx = .ok (.value (.tuple #[.int .u64 hi, .int .u64 be])) wx))
    (k1 : (be != 0) = false) (k2 : (hi != 0) = false) (k3 : lo ≤ 9223372036854775807) (k4 : 0 ≤ lo) (w : World) :
    Calls Tryz.prog 32 #[.agg #[.bool s, .int .i64 h, .int .i64 l], .agg #[.bool s', .int .i64 h', .int .i64 l']] w fun e w' => e = .returned (.tuple #[.int .i64 lo, .bool true]) ∧ Below w.heap.size w w' := by
  go_enter Tryz.func32, Tryz.ntmps32
  go_upto_region 1 with fail
  go_cut [] (fun wc => (wc.cell? ⟨w.heap.size, 0, none⟩ = some (.bool S) ∧ wc.cell? ⟨w.heap.size, 1, none⟩ = some (.int .i64 H) ∧ wc.cell? ⟨w.heap.size, 2, none⟩ = some (.int .i64 L))
    ∧ (wc.cell? ⟨w.heap.size + 1, 0, none⟩ = some (.bool S) ∧ wc.cell? ⟨w.heap.size + 1, 1, none⟩ = some (.int .i64 H') ∧ wc.cell? ⟨w.heap.size + 1, 2, none⟩ = some (.int .i64 L'))
    ∧ Below w.heap.size w wc)
  case first =>
    go_region_with (first
      | (go_at_call_of 33 (Value.int .i64 h); refine (addrOrZero_any _ _ _ _ _ _ hz _).mono ?_; rintro e w1 ⟨rfl, hb1⟩; have hz1 := hb1.size; (try simp at hz1); (first | (refine ltk (w.heap.size) (w1.heap.size) ?_ ?_; (focus omega); intro f0) | skip); (first | (refine ltk (w.heap.size + 1) (w1.heap.size) ?_ ?_; (focus omega); intro f1) | skip); (first | (refine olds_k (w.heap.size + 2) hb1 ?_ ?_; (focus (first | omega | (simp; omega) | (simp; done))); intro hc1 hf1)))
      | (go_at_call_of 33 (Value.int .i64 h'); refine (addrOrZero_any _ _ _ _ _ _ hz' _).mono ?_; rintro e w2 ⟨rfl, hb2⟩; have hz2 := hb2.size; (try simp at hz2); (first | (refine ltk (w.heap.size) (w2.heap.size) ?_ ?_; (focus omega); intro g0) | skip); (first | (refine ltk (w.heap.size + 1) (w2.heap.size) ?_ ?_; (focus omega); intro g1) | skip); (first | (refine olds_k (w.heap.size + 2) hb2 ?_ ?_; (focus (first | omega | (simp; omega) | (simp; done))); intro hc2 hf2))))
    all_goals
      go_wp2_with fail
      go_meet
      refine ⟨⟨?_, ?_, ?_⟩, ⟨?_, ?_, ?_⟩, ?_⟩
      all_goals try (go_simp; done)
      repeat (first | with_reducible exact Below.refl _ _ | (with_reducible refine Below.drew ?_) | (with_reducible refine Below.alloc ?_ ?_ _; rotate_left; (focus (first | omega | (simp; omega) | (simp; done)))) | (with_reducible refine Below.setCell ?_ ?_ _; rotate_left; (focus (first | omega | (simp; omega) | (simp; done)))) | (with_reducible refine Below.trans ?_ (hb2.mono ?_); rotate_left; (focus (first | omega | (simp; omega) | (simp; done)))) | (with_reducible refine Below.trans ?_ (hb1.mono ?_); rotate_left; (focus (first | omega | (simp; omega) | (simp; done)))))
  case rest =>
    obtain ⟨⟨x0, x1, x2⟩, ⟨y0, y1, y2⟩, hb⟩ := hcut
    go_wp2_with (first | simp only [a1.out] | simp only [a2.out])
    go_ret2
    exact ⟨rfl, hb⟩

end Go.Proofs.YtadhapggcifldaaGreatDoor
namespace Go.Proofs.YtadhapggcifldaaGreatDoor
open Go.RowKit

theorem hidP {p : Prop} (h : p) : Hid p := h

/-- Four cells: a bool, two words, a number. -/
structure Pf where
  s : Bool
  H : BitVec 64
  L : BitVec 64
  b : Int

def Pf.cs (p : Pf) : List Value := [.bool p.s, .int .i64 p.H.toInt, .int .i64 p.L.toInt, .int .i64 p.b]
def flat : List Pf → List Value
  | [] => []
  | p :: t => p.cs ++ flat t
theorem flat_at : ∀ (ps : List Pf) (j : Nat) (q : Pf), ps[j]? = some q → (flat ps)[j * 4]? = some (.bool q.s) ∧ (flat ps)[j * 4 + 1]? = some (.int .i64 q.H.toInt) ∧ (flat ps)[j * 4 + 2]? = some (.int .i64 q.L.toInt) ∧ (flat ps)[j * 4 + 3]? = some (.int .i64 q.b)
  | [], j, q, h => by simp at h
  | p :: t, 0, q, h => by
      simp at h; subst h; simp [flat, Pf.cs]
  | p :: t, j + 1, q, h => by
      have := flat_at t j q (by simpa using h)
      have e : ∀ i, (flat (p :: t))[(j + 1) * 4 + i]? = (flat t)[j * 4 + i]? := fun i => by
        show (p.cs ++ flat t)[(j + 1) * 4 + i]? = _
        rw [List.getElem?_append_right (by simp [Pf.cs]; omega)]
        congr 1
        simp [Pf.cs]; omega
      have e0 := e 0
      rw [Nat.add_zero, Nat.add_zero] at e0
      rw [e0, e 1, e 2, e 3]
      exact this

/-- What is read of a row. -/
def Row (w : World) (a : Option Addr) (ps : List Pf) : Prop := ∀ j, j < ps.length → ∃ p o q, a = some ⟨p, o, none⟩ ∧ p < w.heap.size ∧ ps[j]? = some q ∧
  w.cell? ⟨p, o + j * 4, none⟩ = some (.bool q.s) ∧ w.cell? ⟨p, o + j * 4 + 1, none⟩ = some (.int .i64 q.H.toInt) ∧ w.cell? ⟨p, o + j * 4 + 2, none⟩ = some (.int .i64 q.L.toInt) ∧ w.cell? ⟨p, o + j * 4 + 3, none⟩ = some (.int .i64 q.b)
/-- A row of one's own. -/
def OwnR (t : TypeId) (w : World) (B : Nat) (v : Value) (ps : List Pf) : Prop := w.ownsRow B t 4 v ps.length (flat ps)

theorem Row.later {w w' : World} {a : Option Addr} {ps : List Pf} (h : Row w a ps) (hb : Below w.heap.size w w') : Row w' a ps := fun j hj => by
  obtain ⟨p, o, q, ha, hp, hq, c0, c1, c2, c3⟩ := h j hj
  exact ⟨p, o, q, ha, Nat.lt_of_lt_of_le hp hb.size, hq, (hb.cell hp).trans c0, (hb.cell hp).trans c1, (hb.cell hp).trans c2, (hb.cell hp).trans c3⟩
theorem Row.nil (w : World) (a : Option Addr) : Row w a [] := fun j hj => absurd hj (Nat.not_lt_zero j)
theorem OwnR.row {t : TypeId} {w : World} {B n cap : Nat} {a : Option Addr} {ps : List Pf} (h : OwnR t w B (.slice a n cap) ps) : Row w a ps := fun j hj => by
  rcases h.2 with ⟨hv, hn⟩ | ⟨g, c, cur, hv, _, hg, _⟩
  · omega
  · simp at hv
    obtain ⟨rfl, rfl, rfl⟩ := hv
    have hq : ps[j]? = some ps[j] := List.getElem?_eq_getElem hj
    obtain ⟨c0, c1, c2, c3⟩ := flat_at ps j _ hq
    have k := fun (i : Nat) (hi : i < 4) => World.ownsRow.cellAt h (j * 4 + i) (by omega : j * 4 + i < ps.length * 4)
    refine ⟨g, 0, ps[j], rfl, ?_, hq, ?_, ?_, ?_, ?_⟩
    · rcases Nat.lt_or_ge g w.heap.size with h' | h'
      · exact h'
      · rw [Array.getElem?_eq_none h'] at hg; cases hg
    · have := k 0 (by omega : 0 < 4); rw [Nat.zero_add]; rw [Nat.add_zero] at this; rw [this, c0]
    · have := k 1 (by omega : 1 < 4); rw [Nat.zero_add, this, c1]
    · have := k 2 (by omega : 2 < 4); rw [Nat.zero_add, this, c2]
    · have := k 3 (by omega : 3 < 4); rw [Nat.zero_add, this, c3]
theorem OwnR.lt {t : TypeId} {w : World} {B : Nat} {v : Value} {ps : List Pf} (h : OwnR t w B v ps) : ∀ k, v.ownBlock = some k → B ≤ k ∧ k < w.heap.size := World.ownsRow.lt h
theorem OwnR.alloc {t : TypeId} {w : World} {B : Nat} {v : Value} {ps : List Pf} (h : OwnR t w B v ps) (o : Obj) : OwnR t (w.alloc o) B v ps := World.ownsRow.alloc h o
theorem OwnR.mono {t : TypeId} {w : World} {B B' : Nat} {v : Value} {ps : List Pf} (h : OwnR t w B v ps) (hb : B' ≤ B) : OwnR t w B' v ps := by
  refine ⟨h.1, ?_⟩
  rcases h.2 with h' | ⟨g, c, cur, h1, h2, h3⟩
  · exact Or.inl h'
  · exact Or.inr ⟨g, c, cur, h1, Nat.le_trans hb h2, h3⟩
theorem OwnR.later {t : TypeId} {w w' : World} {B : Nat} {v : Value} {ps : List Pf} (h : OwnR t w B v ps) (hb : Below w.heap.size w w') : OwnR t w' B v ps := by
  refine ⟨h.1, ?_⟩
  rcases h.2 with h' | ⟨g, c, cur, h1, h2, h3, h4⟩
  · exact Or.inl h'
  · refine Or.inr ⟨g, c, cur, h1, h2, ?_, h4⟩
    have hg : g < w.heap.size := by
      rcases Nat.lt_or_ge g w.heap.size with h' | h'
      · exact h'
      · rw [Array.getElem?_eq_none h'] at h3; cases h3
    exact (hb.block g hg).trans h3
theorem OwnR.caps {t : TypeId} {w : World} {B n c : Nat} {a : Option Addr} {ps : List Pf} (h : OwnR t w B (.slice a n c) ps) : n = ps.length ∧ ps.length ≤ c ∧ c ≤ 9223372036854775807 ∧ (a = none → c = 0) := by
  rcases h.2 with ⟨hv, hn⟩ | ⟨g, c', cur, hv, _, _, h1, h2, _⟩
  · simp at hv; obtain ⟨rfl, rfl, rfl⟩ := hv; exact ⟨hn.symm, by omega, by omega, fun _ => rfl⟩
  · simp at hv
    obtain ⟨rfl, rfl, rfl⟩ := hv
    exact ⟨rfl, h1, by unfold maxLen at h2; omega, fun h => by cases h⟩

/-- Rows of four cells: the type's facts. -/
def Four (P : Program) (t e : TypeId) : Prop := P.underlying t = some (.slice e) ∧ (P.info? e).map (fun i => (i.zero, i.size, i.bytes)) = some (some (.agg #[.bool false, .int .i64 0, .int .i64 0, .int .i64 0]), 4, 32)

end Go.Proofs.YtadhapggcifldaaGreatDoor
namespace Go.Proofs.YtadhapggcifldaaGreatDoor
open Go.RowKit

/-- A word without its sign. -/
def uwd (x : Int) : Int := x % 18446744073709551616
theorem uwd_is (x : Int) : IntKind.u64.wrap x = uwd x := IntKind.wrap_u64 x
theorem uwd_bd (x : Int) : 0 ≤ uwd x ∧ uwd x < 18446744073709551616 := by unfold uwd; omega
/-- b is n behind a. -/
def Behind (h l H L n : Int) : Prop := uwd H * 18446744073709551616 + uwd L = uwd h * 18446744073709551616 + uwd l + n
def AddI (s : Bool) (h l n : Int) (S : Bool) (H L : Int) (ok : Bool) : Prop := ok = true → 0 ≤ n ∧ S = s ∧ okB s H L = true ∧ (-9223372036854775808 ≤ H ∧ H ≤ 9223372036854775807) ∧ (-9223372036854775808 ≤ L ∧ L ≤ 9223372036854775807) ∧ Behind h l H L n
theorem w64_bd (x : Int) : -9223372036854775808 ≤ wrap64 x ∧ wrap64 x ≤ 9223372036854775807 := by rw [wrap64]; omega
theorem uwd_w64 (x : Int) : uwd (wrap64 x) = uwd x := by unfold uwd; rw [wrap64]; omega

theorem gap_val (s : Bool) (h l H L n : Int) (hok : okB s h l = true) (hok' : okB s H L = true) (hn : 0 ≤ n) (wn : n ≤ 9223372036854775807) (hb : Behind h l H L n) (w : World) :
    Calls Tryz.prog 32 #[.agg #[.bool s, .int .i64 h, .int .i64 l], .agg #[.bool s, .int .i64 H, .int .i64 L]] w fun e w' => e = .returned (.tuple #[.int .i64 n, .bool true]) ∧ Below w.heap.size w w' := by
  have hz : Nrm s h l s h l := Or.inl ⟨hok, rfl, rfl, rfl⟩
  have hz' : Nrm s H L s H L := Or.inl ⟨hok', rfl, rfl, rfl⟩
  have a1 := sub64 (IntKind.u64.wrap L) (IntKind.u64.wrap l) 0 (WordG_u _) (WordG_u _) BitG0
  have a2 := sub64 (IntKind.u64.wrap H) (IntKind.u64.wrap h) (subB (IntKind.u64.wrap L) (IntKind.u64.wrap l) 0) (WordG_u _) (WordG_u _) (subB_bit _ _ _)
  have b1 := uwd_bd h; have b2 := uwd_bd l; have b3 := uwd_bd H; have b4 := uwd_bd L
  have e1 : subD (IntKind.u64.wrap L) (IntKind.u64.wrap l) 0 = n := by
    simp only [uwd_is, subD]; unfold Behind at hb; omega
  have key : (uwd L < uwd l ∧ uwd H = uwd h + 1) ∨ (¬ uwd L < uwd l ∧ uwd H = uwd h) := by unfold Behind at hb; omega
  have e2 : subD (IntKind.u64.wrap H) (IntKind.u64.wrap h) (subB (IntKind.u64.wrap L) (IntKind.u64.wrap l) 0) = 0 := by
    simp only [uwd_is, subD, subB]
    rcases key with ⟨k1, k2⟩ | ⟨k1, k2⟩
    · rw [if_pos (by omega)]; omega
    · rw [if_neg (by omega)]; omega
  have e3 : subB (IntKind.u64.wrap H) (IntKind.u64.wrap h) (subB (IntKind.u64.wrap L) (IntKind.u64.wrap l) 0) = 0 := by
    simp only [uwd_is, subB]
    rcases key with ⟨k1, k2⟩ | ⟨k1, k2⟩
    · rw [if_pos (show uwd L < uwd l + 0 by omega), if_neg (by omega)]
    · rw [if_neg (show ¬ uwd L < uwd l + 0 by omega), if_neg (by omega)]
  rw [e1] at a1
  rw [e2, e3] at a2
  exact iGap_ok s h l s H L s h l H L _ _ _ _ hz hz' a1 a2 rfl rfl wn hn w

end Go.Proofs.YtadhapggcifldaaGreatDoor
namespace Go.Proofs.YtadhapggcifldaaGreatDoor
open Go.RowKit

def ml (n : Nat) : BitVec 64 := if 64 ≤ n then BitVec.allOnes 64 else BitVec.ofNat 64 (2 ^ n - 1)
def mh (n : Nat) : BitVec 64 := ml (n - 64)
def hg (b : Int) : BitVec 64 := if b ≤ 0 then 0 else if 64 ≤ b then BitVec.allOnes 64 else BitVec.allOnes 64 <<< (64 - b).toNat

theorem wrapI (r : BitVec 64) : IntKind.wrap .i64 (r.toNat : Int) = r.toInt := by
  have h := r.isLt
  simp [IntKind.wrap, IntKind.bits, IntKind.signed, BitVec.toInt_eq_toNat_cond]
  omega
theorem wrapU (r : BitVec 64) : IntKind.wrap .u64 (r.toInt) = (r.toNat : Int) := by
  have h := r.isLt
  simp [IntKind.wrap, IntKind.bits, IntKind.signed, BitVec.toInt_eq_toNat_cond]
  split <;> omega
theorem wrapUn (r : BitVec 64) : IntKind.wrap .u64 (r.toNat) = (r.toNat : Int) := by
  have h := r.isLt
  simp [IntKind.wrap, IntKind.bits, IntKind.signed]
  omega
theorem ofN (r : BitVec 64) : BitVec.ofInt 64 (r.toNat : Int) = r := by simp
theorem ofI (r : BitVec 64) : BitVec.ofInt 64 r.toInt = r := by simp

theorem w64 (x : Int) : wrap64 x = IntKind.i64.wrap x := by rw [IntKind.wrap_i64, wrap64]

theorem bAN (H M : BitVec 64) : bits .andNot .i64 H.toInt M.toInt = (H &&& ~~~ M).toInt := by
  show IntKind.i64.wrap ((BitVec.ofInt 64 H.toInt &&& ~~~ BitVec.ofInt 64 M.toInt).toNat : Int) = _
  rw [ofI, ofI, wrapI]
theorem bAnd (H M : BitVec 64) : bits .and .i64 H.toInt M.toInt = (H &&& M).toInt := by
  show IntKind.i64.wrap ((BitVec.ofInt 64 H.toInt &&& BitVec.ofInt 64 M.toInt).toNat : Int) = _
  rw [ofI, ofI, wrapI]
theorem bAndU (H M : BitVec 64) : bits .and .u64 H.toNat M.toNat = (H &&& M).toNat := by
  show IntKind.u64.wrap ((BitVec.ofInt 64 H.toNat &&& BitVec.ofInt 64 M.toNat).toNat : Int) = _
  rw [ofN, ofN, wrapUn]
theorem hg_sh (b : Int) (h : 0 < b) (h1 : b < 64) : IntKind.wrap .u64 (18446744073709551615 * 2 ^ min (64 - b).toNat 64) = (hg b).toNat := by
  have : ∀ k : Fin 64, 0 < k.val → IntKind.wrap .u64 (18446744073709551615 * 2 ^ min (64 - (k.val : Int)).toNat 64) = (hg (k.val : Int)).toNat := by decide
  have := this ⟨b.toNat, by omega⟩ (by simp; omega)
  simpa [Int.toNat_of_nonneg (Int.le_of_lt h)] using this
theorem hg_hi (n : Nat) (h : n ≤ 128) : hg (128 - (n : Int)) = ~~~ mh n := by
  have : ∀ k : Fin 129, hg (128 - (k.val : Int)) = ~~~ mh k.val := by decide
  exact this ⟨n, by omega⟩
theorem hg_lo (n : Nat) (h : n ≤ 128) : hg (128 - (n : Int) - 64) = ~~~ ml n := by
  have : ∀ k : Fin 129, hg (128 - (k.val : Int) - 64) = ~~~ ml k.val := by decide
  exact this ⟨n, by omega⟩
theorem hg_32 (n : Nat) (h : n ≤ 32) : 0xFFFFFFFF#64 &&& ~~~ ml n = hg (32 - (n : Int)) >>> 32 := by
  have : ∀ k : Fin 33, 0xFFFFFFFF#64 &&& ~~~ ml k.val = hg (32 - (k.val : Int)) >>> 32 := by decide
  exact this ⟨n, by omega⟩
theorem low32 (L : BitVec 64) (h : L.toNat < 4294967296) : L = L &&& 0xFFFFFFFF#64 := by
  apply BitVec.eq_of_toNat_eq
  rw [BitVec.toNat_and]
  have := Nat.and_two_pow_sub_one_eq_mod L.toNat 32
  simp at this ⊢
  omega
theorem msk32 (L : BitVec 64) (h : L.toNat < 4294967296) (n : Nat) (hn : n ≤ 32) : L &&& (hg (32 - (n : Int)) >>> 32) = L &&& ~~~ ml n := by
  rw [← hg_32 n hn, ← BitVec.and_assoc, ← low32 L h]
theorem shr32 (r : BitVec 64) : ((r.toNat : Int).fdiv (2 ^ 32)) = ((r >>> 32).toNat : Int) := by
  simp [BitVec.toNat_ushiftRight, Nat.shiftRight_eq_div_pow]
  rw [Int.fdiv_eq_ediv_of_nonneg _ (by decide)]
/-- cleared and filled -/
def cH (n : Nat) (H : BitVec 64) := H &&& ~~~ mh n
def cL (n : Nat) (L : BitVec 64) := L &&& ~~~ ml n

end Go.Proofs.YtadhapggcifldaaGreatDoor
namespace Go.Proofs.YtadhapggcifldaaGreatDoor
open Go.RowKit

def wd (s : Bool) : Nat := if s then 128 else 32

set_option maxHeartbeats 400000 in
theorem width_any (s : Bool) (h l : Int) (w : World) :
    Calls Tryz.prog 34 #[.agg #[.bool s, .int .i64 h, .int .i64 l]] w fun e w' => e = .returned (.int .i64 (wd s)) ∧ Below w.heap.size w w' := by
  cases s <;>
  · go_enter Tryz.func34, Tryz.ntmps34
    go_wp2
    go_ret
    exact ⟨rfl, (Below.refl _ _).alloc (Nat.le_refl _) _⟩

theorem loX (n : Nat) (h : n ≤ 128) : wrap64 (IntKind.u64.wrap (IntKind.u64.wrap (2 ^ min n 64) - 1)) = (ml n).toInt := by
  have : ∀ k : Fin 129, IntKind.i64.wrap (IntKind.u64.wrap (IntKind.u64.wrap (2 ^ min k.val 64) - 1)) = (ml k.val).toInt := by decide
  rw [w64]
  exact this ⟨n, by omega⟩
theorem hiX (n : Nat) (h : n ≤ 128) (h0 : 0 ≤ (n : Int) - 64) : wrap64 (IntKind.u64.wrap (IntKind.u64.wrap (2 ^ ((n : Int) - 64).toNat) - 1)) = (mh n).toInt := by
  have : ∀ k : Fin 129, IntKind.i64.wrap (IntKind.u64.wrap (IntKind.u64.wrap (2 ^ ((k.val : Int) - 64).toNat) - 1)) = (mh k.val).toInt := by decide
  rw [w64]
  exact this ⟨n, by omega⟩
theorem hiY (n : Nat) (h0 : (n : Int) - 64 < 0) : wrap64 (IntKind.u64.wrap (IntKind.u64.wrap 1 - 1)) = (mh n).toInt := by
  have : ∀ k : Fin 64, IntKind.i64.wrap (IntKind.u64.wrap (IntKind.u64.wrap 1 - 1)) = (mh k.val).toInt := by decide
  rw [w64]
  exact this ⟨n, by omega⟩

set_option maxHeartbeats 400000 in
theorem lastBits_any (n : Nat) (hn : n ≤ 128) (w : World) :
    Calls Tryz.prog 54 #[.int .i64 n] w fun e w' => e = .returned (.tuple #[.int .i64 (mh n).toInt, .int .i64 (ml n).toInt]) ∧ Below w.heap.size w w' := by
  go_enter Tryz.func54, Tryz.ntmps54
  go_wp2
  · exact bodyPost_ret (v := .tuple #[.int .i64 (mh n).toInt, .int .i64 (ml n).toInt]) (by simp [results, Tryz.results54, go_sem, loX n hn, hiY n (by assumption)]) rfl ⟨rfl, Below.refl _ _⟩
  · exact bodyPost_ret (v := .tuple #[.int .i64 (mh n).toInt, .int .i64 (ml n).toInt]) (by simp [results, Tryz.results54, go_sem, loX n hn, hiX n hn (by assumption)]) rfl ⟨rfl, Below.refl _ _⟩

set_option maxHeartbeats 400000 in
theorem cleared_any (s : Bool) (H L : BitVec 64) (n : Nat) (hn : n ≤ 128) (w : World) :
    Calls Tryz.prog 35 #[.agg #[.bool s, .int .i64 H.toInt, .int .i64 L.toInt], .int .i64 n] w fun e w' => e = .returned (.agg #[.bool s, .int .i64 (cH n H).toInt, .int .i64 (cL n L).toInt]) ∧ Below w.heap.size w w' := by
  go_enter Tryz.func35, Tryz.ntmps35
  go_wp2_with fail
  refine (lastBits_any n hn _).mono ?_
  rintro e w1 ⟨rfl, hb⟩
  obtain ⟨hc, hf⟩ := olds (n := w.heap.size + 2) (hb.mono (by simp))
  have hz1 : w.heap.size + 1 < w1.heap.size := by have := hb.size; simp at this; omega
  have hz0 : w.heap.size < w1.heap.size := by omega
  have b1 : Below w.heap.size w w1 := (((Below.refl _ w).alloc (Nat.le_refl _) _).alloc (by simp) _).trans (hb.mono (by simp; omega))
  go_wp2
  refine bodyPost_ret (v := .agg #[.bool s, .int .i64 (cH n H).toInt, .int .i64 (cL n L).toInt]) (by simp [results, Tryz.results35, go_sem, hc, bAN, cH, cL]) rfl ⟨rfl, ?_⟩
  repeat (first | with_reducible exact b1 | (with_reducible refine Below.setCell ?_ (by first | omega | (simp; done) | (simp; omega)) _) | (with_reducible refine Below.alloc ?_ (by first | omega | (simp; done) | (simp; omega)) _))

end Go.Proofs.YtadhapggcifldaaGreatDoor
namespace Go.Proofs.YtadhapggcifldaaGreatDoor
open Go.RowKit

/-- '==' on two addresses, and on two spans. -/
theorem eqAd (a : Bool) (b c : Int) (d : Bool) (e f : Int) (w : World) : (Op.equalIn 10000 25 (.agg #[.bool a, .int .i64 b, .int .i64 c]) (.agg #[.bool d, .int .i64 e, .int .i64 f])).run Tryz.prog w = .ok (a == d && (b == e && c == f)) w := by
  have u3 := Tryz.underlying3
  have a3 := Tryz.isAgg3
  have z3 := Tryz.sizeOf3
  have u4 := Tryz.underlying4
  have a4 := Tryz.isAgg4
  have z4 := Tryz.sizeOf4
  have hS : Tryz.prog.underlying 25 = some (.struct (Tryz.prog.fieldsOf 25)) := by kernel_rfl
  have hp : Tryz.prog.stoodInHeld 25 = false := by kernel_rfl
  rw [show (10000 : Nat) = 9999 + 1 from rfl, run_equalIn_agg w 9999 25 _ _ hS hp]
  simp only [Program.fieldsOf, Tryz.underlying25]
  go_simp
  by_cases h1 : a = d <;> by_cases h2 : b = e <;> by_cases h3 : c = f <;> simp [h1, h2, h3]

theorem beqI (x y : BitVec 64) : (x.toInt == y.toInt) = (x == y) := by
  rw [Bool.eq_iff_iff, beq_iff_eq, beq_iff_eq, BitVec.toInt_inj]

/-- whether the span (s, H, L) of size n has the address (s', H', L') -/
def hasB (s : Bool) (H L : BitVec 64) (n : Nat) (s' : Bool) (H' L' : BitVec 64) : Bool := s' == s && (cH n H' == H && cL n L' == L)

theorem hasEq (s : Bool) (H L : BitVec 64) (n : Nat) (s' : Bool) (H' L' : BitVec 64) (wx : World) : (Op.equalIn 10000 25 (.agg #[.bool s', .int .i64 (cH n H').toInt, .int .i64 (cL n L').toInt]) (.agg #[.bool s, .int .i64 H.toInt, .int .i64 L.toInt])).run Tryz.prog wx = .ok (hasB s H L n s' H' L') wx := by
  rw [eqAd, beqI, beqI]; rfl

set_option maxHeartbeats 1000000 in
theorem has_any (s : Bool) (H L : BitVec 64) (n : Nat) (hn : n ≤ 128) (s' : Bool) (H' L' : BitVec 64) (w : World) :
    Calls Tryz.prog 29 #[.agg #[.bool s, .int .i64 H.toInt, .int .i64 L.toInt, .int .i64 n], .agg #[.bool s', .int .i64 H'.toInt, .int .i64 L'.toInt]] w fun e w' => e = .returned (.bool (hasB s H L n s' H' L')) ∧ Below w.heap.size w w' := by
  have hq := hasEq s H L n s' H' L'
  go_enter Tryz.func29, Tryz.ntmps29
  go_wp2_with fail
  go_region_with ((go_at_call 35; refine (cleared_any s' H' L' n hn _).mono ?_; rintro e w1 ⟨rfl, hb1⟩; have hz1 := hb1.size; (try simp at hz1); (first | (refine ltk (w.heap.size) (w1.heap.size) ?_ ?_; (focus omega); intro f10) | skip); (first | (refine ltk (w.heap.size + 1) (w1.heap.size) ?_ ?_; (focus omega); intro f11) | skip); (refine olds_k (w.heap.size + 2) hb1 ?_ ?_; (focus (first | omega | (simp; omega) | (simp; done))); intro hc1 hf1)))
  all_goals
    go_wp2_with fail
    go_ret
    refine ⟨rfl, ?_⟩
    repeat (first | with_reducible exact Below.refl _ _ | (with_reducible refine Below.drew ?_) | (with_reducible refine Below.alloc ?_ ?_ _; rotate_left; (focus (first | omega | (simp; omega) | (simp; done)))) | (with_reducible refine Below.setCell ?_ ?_ _; rotate_left; (focus (first | omega | (simp; omega) | (simp; done)))) | (with_reducible refine Below.trans ?_ (hb1.mono ?_); rotate_left; (focus (first | omega | (simp; omega) | (simp; done)))))

end Go.Proofs.YtadhapggcifldaaGreatDoor
namespace Go.Proofs.YtadhapggcifldaaGreatDoor
open Go.RowKit

theorem wd_le' (s : Bool) : wd s ≤ 128 := by cases s <;> decide

set_option maxHeartbeats 1000000 in
theorem spanOf_bad (s : Bool) (H L : BitVec 64) (b : Int) (hok : okB s H.toInt L.toInt = false) (w : World) :
    Calls Tryz.prog 24 #[.agg #[.bool s, .int .i64 H.toInt, .int .i64 L.toInt, .int .i64 b]] w fun e w' => e = .returned (.tuple #[.agg #[.bool false, .int .i64 0, .int .i64 0, .int .i64 0], .bool false]) ∧ Below w.heap.size w w' := by
  have HK : Hid (∀ w, _) := iAddrOk_any s H.toInt L.toInt
  rw [hok] at HK
  clear hok
  go_enter Tryz.func24, Tryz.ntmps24
  go_wp2_with fail
  first | (go_region_with ((go_at_call 36; refine (HK.out _).mono ?_; rintro e w1 ⟨rfl, hb1⟩; have hz1 := hb1.size; (try simp at hz1); (first | (refine ltk (w.heap.size) (w1.heap.size) ?_ ?_; (focus omega); intro f10) | skip); (first | (refine ltk (w.heap.size + 1) (w1.heap.size) ?_ ?_; (focus omega); intro f11) | skip); (first | (refine ltk (w.heap.size + 2) (w1.heap.size) ?_ ?_; (focus omega); intro f12) | skip); (refine olds_k (w.heap.size + 3) hb1 ?_ ?_; (focus (first | omega | (simp; omega) | (simp; done))); intro hc1 hf1)))) | fail
  all_goals
    go_wp2_with fail
    refine bodyPost_ret (v := .tuple #[.agg #[.bool false, .int .i64 0, .int .i64 0, .int .i64 0], .bool false]) (by simp [results, Tryz.results24, go_sem, hc1]) rfl ⟨rfl, ?_⟩
    repeat (first | with_reducible exact Below.refl _ _ | (with_reducible refine Below.drew ?_) | (with_reducible refine Below.alloc ?_ ?_ _; rotate_left; (focus (first | omega | (simp; omega) | (simp; done)))) | (with_reducible refine Below.setCell ?_ ?_ _; rotate_left; (focus (first | omega | (simp; omega) | (simp; done)))) | (with_reducible refine Below.trans ?_ (hb1.mono ?_); rotate_left; (focus (first | omega | (simp; omega) | (simp; done)))))

set_option maxHeartbeats 1000000 in
theorem spanOf_neg (s : Bool) (H L : BitVec 64) (b : Int) (hok : okB s H.toInt L.toInt = true) (hb : b < 0) (w : World) :
    Calls Tryz.prog 24 #[.agg #[.bool s, .int .i64 H.toInt, .int .i64 L.toInt, .int .i64 b]] w fun e w' => e = .returned (.tuple #[.agg #[.bool false, .int .i64 0, .int .i64 0, .int .i64 0], .bool false]) ∧ Below w.heap.size w w' := by
  have HK : Hid (∀ w, _) := iAddrOk_any s H.toInt L.toInt
  rw [hok] at HK
  clear hok
  go_enter Tryz.func24, Tryz.ntmps24
  go_wp2_with fail
  first | (go_region_with ((go_at_call 36; refine (HK.out _).mono ?_; rintro e w1 ⟨rfl, hb1⟩; have hz1 := hb1.size; (try simp at hz1); (first | (refine ltk (w.heap.size) (w1.heap.size) ?_ ?_; (focus omega); intro f10) | skip); (first | (refine ltk (w.heap.size + 1) (w1.heap.size) ?_ ?_; (focus omega); intro f11) | skip); (first | (refine ltk (w.heap.size + 2) (w1.heap.size) ?_ ?_; (focus omega); intro f12) | skip); (refine olds_k (w.heap.size + 3) hb1 ?_ ?_; (focus (first | omega | (simp; omega) | (simp; done))); intro hc1 hf1)))) | fail
  all_goals
    go_wp2_with fail
    refine bodyPost_ret (v := .tuple #[.agg #[.bool false, .int .i64 0, .int .i64 0, .int .i64 0], .bool false]) (by simp [results, Tryz.results24, go_sem, hc1]) rfl ⟨rfl, ?_⟩
    repeat (first | with_reducible exact Below.refl _ _ | (with_reducible refine Below.drew ?_) | (with_reducible refine Below.alloc ?_ ?_ _; rotate_left; (focus (first | omega | (simp; omega) | (simp; done)))) | (with_reducible refine Below.setCell ?_ ?_ _; rotate_left; (focus (first | omega | (simp; omega) | (simp; done)))) | (with_reducible refine Below.trans ?_ (hb1.mono ?_); rotate_left; (focus (first | omega | (simp; omega) | (simp; done)))))

set_option maxHeartbeats 1000000 in
theorem spanOf_big (s : Bool) (H L : BitVec 64) (b : Int) (hok : okB s H.toInt L.toInt = true) (hb : 0 ≤ b) (hg : (wd s : Int) < b) (w : World) :
    Calls Tryz.prog 24 #[.agg #[.bool s, .int .i64 H.toInt, .int .i64 L.toInt, .int .i64 b]] w fun e w' => e = .returned (.tuple #[.agg #[.bool false, .int .i64 0, .int .i64 0, .int .i64 0], .bool false]) ∧ Below w.heap.size w w' := by
  have HK : Hid (∀ w, _) := iAddrOk_any s H.toInt L.toInt
  rw [hok] at HK
  clear hok
  go_enter Tryz.func24, Tryz.ntmps24
  go_wp2_with fail
  first | (go_region_with (first | (go_at_call 36; refine (HK.out _).mono ?_; rintro e w1 ⟨rfl, hb1⟩; have hz1 := hb1.size; (try simp at hz1); (first | (refine ltk (w.heap.size) (w1.heap.size) ?_ ?_; (focus omega); intro f10) | skip); (first | (refine ltk (w.heap.size + 1) (w1.heap.size) ?_ ?_; (focus omega); intro f11) | skip); (first | (refine ltk (w.heap.size + 2) (w1.heap.size) ?_ ?_; (focus omega); intro f12) | skip); (refine olds_k (w.heap.size + 3) hb1 ?_ ?_; (focus (first | omega | (simp; omega) | (simp; done))); intro hc1 hf1)) | (go_at_call 34; refine (width_any s H.toInt L.toInt _).mono ?_; rintro e w2 ⟨rfl, hb2⟩; have hz2 := hb2.size; (try simp at hz2); (first | (refine ltk (w.heap.size) (w2.heap.size) ?_ ?_; (focus omega); intro f20) | skip); (first | (refine ltk (w.heap.size + 1) (w2.heap.size) ?_ ?_; (focus omega); intro f21) | skip); (first | (refine ltk (w.heap.size + 2) (w2.heap.size) ?_ ?_; (focus omega); intro f22) | skip); (refine olds_k (w.heap.size + 3) hb2 ?_ ?_; (focus (first | omega | (simp; omega) | (simp; done))); intro hc2 hf2)))) | fail
  all_goals
    go_wp2_with fail
    refine bodyPost_ret (v := .tuple #[.agg #[.bool false, .int .i64 0, .int .i64 0, .int .i64 0], .bool false]) (by simp [results, Tryz.results24, go_sem, hc1, hc2]) rfl ⟨rfl, ?_⟩
    repeat (first | with_reducible exact Below.refl _ _ | (with_reducible refine Below.drew ?_) | (with_reducible refine Below.alloc ?_ ?_ _; rotate_left; (focus (first | omega | (simp; omega) | (simp; done)))) | (with_reducible refine Below.setCell ?_ ?_ _; rotate_left; (focus (first | omega | (simp; omega) | (simp; done)))) | (with_reducible refine Below.trans ?_ (hb2.mono ?_); rotate_left; (focus (first | omega | (simp; omega) | (simp; done)))) | (with_reducible refine Below.trans ?_ (hb1.mono ?_); rotate_left; (focus (first | omega | (simp; omega) | (simp; done)))))

end Go.Proofs.YtadhapggcifldaaGreatDoor
namespace Go.Proofs.YtadhapggcifldaaGreatDoor
open Go.RowKit

set_option maxHeartbeats 1000000 in
theorem spanOf_ok (s : Bool) (H L : BitVec 64) (b : Int) (n : Nat) (hn : n ≤ 128) (hok : okB s H.toInt L.toInt = true) (hb0 : 0 ≤ b) (hbw : b ≤ (wd s : Int)) (hsub : IntKind.i64.wrap ((wd s : Int) - b) = (n : Int)) (hh : hasB s H L n s H L = true) (w : World) :
    Calls Tryz.prog 24 #[.agg #[.bool s, .int .i64 H.toInt, .int .i64 L.toInt, .int .i64 b]] w fun e w' => e = .returned (.tuple #[.agg #[.bool s, .int .i64 H.toInt, .int .i64 L.toInt, .int .i64 n], .bool true]) ∧ Below w.heap.size w w' := by
  have HH : Hid (∀ w, _) := has_any s H L n hn s H L
  rw [hh] at HH
  clear hh
  have HK : Hid (∀ w, _) := iAddrOk_any s H.toInt L.toInt
  rw [hok] at HK
  clear hok
  have d1 : decide (b < 0) = false := decide_eq_false (by omega)
  have d2 : decide ((wd s : Int) < b) = false := decide_eq_false (by omega)
  go_enter Tryz.func24, Tryz.ntmps24
  go_upto_region 2 with fail
  go_cut [24] (fun t24 wc => t24 = .bool false ∧ Below (w.heap.size + 3) (((w.alloc (.cells #[.bool s, .int .i64 H.toInt, .int .i64 L.toInt, .int .i64 b] 27)).alloc (.cells #[.bool false, .int .i64 0, .int .i64 0, .int .i64 0] 52)).alloc (.cells #[.bool s, .int .i64 H.toInt, .int .i64 L.toInt, .int .i64 0] 52)) wc ∧ Below w.heap.size w wc)
  case first =>
    first | (go_region_with (first | (go_at_call 36; refine (HK.out _).mono ?_; rintro e w1 ⟨rfl, hb1⟩; have hz1 := hb1.size; (try simp at hz1); (first | (refine ltk (w.heap.size) (w1.heap.size) ?_ ?_; (focus omega); intro f10) | skip); (first | (refine ltk (w.heap.size + 1) (w1.heap.size) ?_ ?_; (focus omega); intro f11) | skip); (first | (refine ltk (w.heap.size + 2) (w1.heap.size) ?_ ?_; (focus omega); intro f12) | skip); (refine olds_k (w.heap.size + 3) hb1 ?_ ?_; (focus (first | omega | (simp; omega) | (simp; done))); intro hc1 hf1)) | (go_at_call 34; refine (width_any s H.toInt L.toInt _).mono ?_; rintro e w2 ⟨rfl, hb2⟩; have hz2 := hb2.size; (try simp at hz2); (first | (refine ltk (w.heap.size) (w2.heap.size) ?_ ?_; (focus omega); intro f20) | skip); (first | (refine ltk (w.heap.size + 1) (w2.heap.size) ?_ ?_; (focus omega); intro f21) | skip); (first | (refine ltk (w.heap.size + 2) (w2.heap.size) ?_ ?_; (focus omega); intro f22) | skip); (refine olds_k (w.heap.size + 3) hb2 ?_ ?_; (focus (first | omega | (simp; omega) | (simp; done))); intro hc2 hf2)))) | fail
    all_goals
      go_wp2_with fail
      go_meet
      refine ⟨rfl, ?_, ?_⟩
      · repeat (first | with_reducible exact Below.refl _ _ | (with_reducible refine Below.drew ?_) | (with_reducible refine Below.alloc ?_ ?_ _; rotate_left; (focus (first | omega | (simp; omega) | (simp; done)))) | (with_reducible refine Below.setCell ?_ ?_ _; rotate_left; (focus (first | omega | (simp; omega) | (simp; done)))) | (with_reducible refine Below.trans ?_ (hb2.mono ?_); rotate_left; (focus (first | omega | (simp; omega) | (simp; done)))) | (with_reducible refine Below.trans ?_ (hb1.mono ?_); rotate_left; (focus (first | omega | (simp; omega) | (simp; done)))))
      · repeat (first | with_reducible exact Below.refl _ _ | (with_reducible refine Below.drew ?_) | (with_reducible refine Below.alloc ?_ ?_ _; rotate_left; (focus (first | omega | (simp; omega) | (simp; done)))) | (with_reducible refine Below.setCell ?_ ?_ _; rotate_left; (focus (first | omega | (simp; omega) | (simp; done)))) | (with_reducible refine Below.trans ?_ (hb2.mono ?_); rotate_left; (focus (first | omega | (simp; omega) | (simp; done)))) | (with_reducible refine Below.trans ?_ (hb1.mono ?_); rotate_left; (focus (first | omega | (simp; omega) | (simp; done)))))
  case rest =>
    obtain ⟨rfl, hB, hW⟩ := hcut
    rename_i wc
    have hzc := hB.size
    simp at hzc
    have y0 : w.heap.size < wc.heap.size := by omega
    have y1 : w.heap.size + 1 < wc.heap.size := by omega
    have y2 : w.heap.size + 2 < wc.heap.size := by omega
    obtain ⟨hc, hf⟩ := olds hB
    go_upto_region 4 with fail
    go_cut [] (fun wd4 => w.heap.size + 2 < wd4.heap.size ∧ wd4.cell? ⟨w.heap.size, 0, none⟩ = some (.bool s) ∧ wd4.cell? ⟨w.heap.size, 1, none⟩ = some (.int .i64 H.toInt) ∧ wd4.cell? ⟨w.heap.size, 2, none⟩ = some (.int .i64 L.toInt) ∧ wd4.cell? ⟨w.heap.size + 2, 0, none⟩ = some (.bool s) ∧ wd4.cell? ⟨w.heap.size + 2, 1, none⟩ = some (.int .i64 H.toInt) ∧ wd4.cell? ⟨w.heap.size + 2, 2, none⟩ = some (.int .i64 L.toInt) ∧ wd4.cell? ⟨w.heap.size + 2, 3, none⟩ = some (.int .i64 n) ∧ wd4.cell? ⟨w.heap.size + 1, 0, none⟩ = some (.bool false) ∧ wd4.cell? ⟨w.heap.size + 1, 1, none⟩ = some (.int .i64 0) ∧ wd4.cell? ⟨w.heap.size + 1, 2, none⟩ = some (.int .i64 0) ∧ wd4.cell? ⟨w.heap.size + 1, 3, none⟩ = some (.int .i64 0) ∧ wd4.frozen? ⟨w.heap.size + 1, 0, none⟩ = false ∧ wd4.frozen? ⟨w.heap.size + 1, 1, none⟩ = false ∧ wd4.frozen? ⟨w.heap.size + 1, 2, none⟩ = false ∧ wd4.frozen? ⟨w.heap.size + 1, 3, none⟩ = false ∧ Below w.heap.size w wd4)
    case first =>
      first | (go_region_with ((go_at_call 34; refine (width_any s H.toInt L.toInt _).mono ?_; rintro e w3 ⟨rfl, hb3⟩; have hz3 := hb3.size; (try simp at hz3); (first | (refine ltk (w.heap.size) (w3.heap.size) ?_ ?_; (focus omega); intro f30) | skip); (first | (refine ltk (w.heap.size + 1) (w3.heap.size) ?_ ?_; (focus omega); intro f31) | skip); (first | (refine ltk (w.heap.size + 2) (w3.heap.size) ?_ ?_; (focus omega); intro f32) | skip); (refine olds_k (w.heap.size + 3) hb3 ?_ ?_; (focus (first | omega | (simp; omega) | (simp; done))); intro hc3 hf3)))) | fail
      all_goals
        go_wp2_with fail
        go_meet
        refine ⟨?_, ?_, ?_, ?_, ?_, ?_, ?_, ?_, ?_, ?_, ?_, ?_, ?_, ?_, ?_, ?_, ?_⟩
        all_goals try (go_simp; done)
        repeat (first | with_reducible exact hW | (with_reducible refine Below.drew ?_) | (with_reducible refine Below.alloc ?_ ?_ _; rotate_left; (focus (first | omega | (simp; omega) | (simp; done)))) | (with_reducible refine Below.setCell ?_ ?_ _; rotate_left; (focus (first | omega | (simp; omega) | (simp; done)))) | (with_reducible refine Below.trans ?_ (hb3.mono ?_); rotate_left; (focus (first | omega | (simp; omega) | (simp; done)))))
    case rest =>
      obtain ⟨x0, p0, p1, p2, q0, q1, q2, q3, r0, r1, r2, r3, g0, g1, g2, g3, hV⟩ := hcut
      clear hc hf hB hW
      have x1 := Nat.lt_of_succ_lt x0
      go_wp2_with fail
      refine (HH.out _).mono ?_
      rintro e w4 ⟨rfl, hb4⟩
      have hz4 := hb4.size
      try simp at hz4
      have f40 : w.heap.size < w4.heap.size := by omega
      have f41 : w.heap.size + 1 < w4.heap.size := by omega
      have f42 : w.heap.size + 2 < w4.heap.size := by omega
      refine olds_k (w.heap.size + 3) hb4 ?_ ?_
      · first | omega | (simp; omega) | (simp; done)
      intro hc4 hf4
      go_wp2_with fail
      refine bodyPost_ret (v := .tuple #[.agg #[.bool s, .int .i64 H.toInt, .int .i64 L.toInt, .int .i64 n], .bool true]) (by simp [results, Tryz.results24, go_sem, hc4, r0, r1, r2, r3]) rfl ⟨rfl, ?_⟩
      repeat (first | with_reducible exact hV | (with_reducible refine Below.drew ?_) | (with_reducible refine Below.alloc ?_ ?_ _; rotate_left; (focus (first | omega | (simp; omega) | (simp; done)))) | (with_reducible refine Below.setCell ?_ ?_ _; rotate_left; (focus (first | omega | (simp; omega) | (simp; done)))) | (with_reducible refine Below.trans ?_ (hb4.mono ?_); rotate_left; (focus (first | omega | (simp; omega) | (simp; done)))))

set_option maxHeartbeats 1000000 in
theorem spanOf_off (s : Bool) (H L : BitVec 64) (b : Int) (n : Nat) (hn : n ≤ 128) (hok : okB s H.toInt L.toInt = true) (hb0 : 0 ≤ b) (hbw : b ≤ (wd s : Int)) (hsub : IntKind.i64.wrap ((wd s : Int) - b) = (n : Int)) (hh : hasB s H L n s H L = false) (w : World) :
    Calls Tryz.prog 24 #[.agg #[.bool s, .int .i64 H.toInt, .int .i64 L.toInt, .int .i64 b]] w fun e w' => e = .returned (.tuple #[.agg #[.bool false, .int .i64 0, .int .i64 0, .int .i64 0], .bool false]) ∧ Below w.heap.size w w' := by
  have HH : Hid (∀ w, _) := has_any s H L n hn s H L
  rw [hh] at HH
  clear hh
  have HK : Hid (∀ w, _) := iAddrOk_any s H.toInt L.toInt
  rw [hok] at HK
  clear hok
  have d1 : decide (b < 0) = false := decide_eq_false (by omega)
  have d2 : decide ((wd s : Int) < b) = false := decide_eq_false (by omega)
  go_enter Tryz.func24, Tryz.ntmps24
  go_upto_region 2 with fail
  go_cut [24] (fun t24 wc => t24 = .bool false ∧ Below (w.heap.size + 3) (((w.alloc (.cells #[.bool s, .int .i64 H.toInt, .int .i64 L.toInt, .int .i64 b] 27)).alloc (.cells #[.bool false, .int .i64 0, .int .i64 0, .int .i64 0] 52)).alloc (.cells #[.bool s, .int .i64 H.toInt, .int .i64 L.toInt, .int .i64 0] 52)) wc ∧ Below w.heap.size w wc)
  case first =>
    first | (go_region_with (first | (go_at_call 36; refine (HK.out _).mono ?_; rintro e w1 ⟨rfl, hb1⟩; have hz1 := hb1.size; (try simp at hz1); (first | (refine ltk (w.heap.size) (w1.heap.size) ?_ ?_; (focus omega); intro f10) | skip); (first | (refine ltk (w.heap.size + 1) (w1.heap.size) ?_ ?_; (focus omega); intro f11) | skip); (first | (refine ltk (w.heap.size + 2) (w1.heap.size) ?_ ?_; (focus omega); intro f12) | skip); (refine olds_k (w.heap.size + 3) hb1 ?_ ?_; (focus (first | omega | (simp; omega) | (simp; done))); intro hc1 hf1)) | (go_at_call 34; refine (width_any s H.toInt L.toInt _).mono ?_; rintro e w2 ⟨rfl, hb2⟩; have hz2 := hb2.size; (try simp at hz2); (first | (refine ltk (w.heap.size) (w2.heap.size) ?_ ?_; (focus omega); intro f20) | skip); (first | (refine ltk (w.heap.size + 1) (w2.heap.size) ?_ ?_; (focus omega); intro f21) | skip); (first | (refine ltk (w.heap.size + 2) (w2.heap.size) ?_ ?_; (focus omega); intro f22) | skip); (refine olds_k (w.heap.size + 3) hb2 ?_ ?_; (focus (first | omega | (simp; omega) | (simp; done))); intro hc2 hf2)))) | fail
    all_goals
      go_wp2_with fail
      go_meet
      refine ⟨rfl, ?_, ?_⟩
      · repeat (first | with_reducible exact Below.refl _ _ | (with_reducible refine Below.drew ?_) | (with_reducible refine Below.alloc ?_ ?_ _; rotate_left; (focus (first | omega | (simp; omega) | (simp; done)))) | (with_reducible refine Below.setCell ?_ ?_ _; rotate_left; (focus (first | omega | (simp; omega) | (simp; done)))) | (with_reducible refine Below.trans ?_ (hb2.mono ?_); rotate_left; (focus (first | omega | (simp; omega) | (simp; done)))) | (with_reducible refine Below.trans ?_ (hb1.mono ?_); rotate_left; (focus (first | omega | (simp; omega) | (simp; done)))))
      · repeat (first | with_reducible exact Below.refl _ _ | (with_reducible refine Below.drew ?_) | (with_reducible refine Below.alloc ?_ ?_ _; rotate_left; (focus (first | omega | (simp; omega) | (simp; done)))) | (with_reducible refine Below.setCell ?_ ?_ _; rotate_left; (focus (first | omega | (simp; omega) | (simp; done)))) | (with_reducible refine Below.trans ?_ (hb2.mono ?_); rotate_left; (focus (first | omega | (simp; omega) | (simp; done)))) | (with_reducible refine Below.trans ?_ (hb1.mono ?_); rotate_left; (focus (first | omega | (simp; omega) | (simp; done)))))
  case rest =>
    obtain ⟨rfl, hB, hW⟩ := hcut
    rename_i wc
    have hzc := hB.size
    simp at hzc
    have y0 : w.heap.size < wc.heap.size := by omega
    have y1 : w.heap.size + 1 < wc.heap.size := by omega
    have y2 : w.heap.size + 2 < wc.heap.size := by omega
    obtain ⟨hc, hf⟩ := olds hB
    go_upto_region 4 with fail
    go_cut [] (fun wd4 => w.heap.size + 2 < wd4.heap.size ∧ wd4.cell? ⟨w.heap.size, 0, none⟩ = some (.bool s) ∧ wd4.cell? ⟨w.heap.size, 1, none⟩ = some (.int .i64 H.toInt) ∧ wd4.cell? ⟨w.heap.size, 2, none⟩ = some (.int .i64 L.toInt) ∧ wd4.cell? ⟨w.heap.size + 2, 0, none⟩ = some (.bool s) ∧ wd4.cell? ⟨w.heap.size + 2, 1, none⟩ = some (.int .i64 H.toInt) ∧ wd4.cell? ⟨w.heap.size + 2, 2, none⟩ = some (.int .i64 L.toInt) ∧ wd4.cell? ⟨w.heap.size + 2, 3, none⟩ = some (.int .i64 n) ∧ wd4.cell? ⟨w.heap.size + 1, 0, none⟩ = some (.bool false) ∧ wd4.cell? ⟨w.heap.size + 1, 1, none⟩ = some (.int .i64 0) ∧ wd4.cell? ⟨w.heap.size + 1, 2, none⟩ = some (.int .i64 0) ∧ wd4.cell? ⟨w.heap.size + 1, 3, none⟩ = some (.int .i64 0) ∧ wd4.frozen? ⟨w.heap.size + 1, 0, none⟩ = false ∧ wd4.frozen? ⟨w.heap.size + 1, 1, none⟩ = false ∧ wd4.frozen? ⟨w.heap.size + 1, 2, none⟩ = false ∧ wd4.frozen? ⟨w.heap.size + 1, 3, none⟩ = false ∧ Below w.heap.size w wd4)
    case first =>
      first | (go_region_with ((go_at_call 34; refine (width_any s H.toInt L.toInt _).mono ?_; rintro e w3 ⟨rfl, hb3⟩; have hz3 := hb3.size; (try simp at hz3); (first | (refine ltk (w.heap.size) (w3.heap.size) ?_ ?_; (focus omega); intro f30) | skip); (first | (refine ltk (w.heap.size + 1) (w3.heap.size) ?_ ?_; (focus omega); intro f31) | skip); (first | (refine ltk (w.heap.size + 2) (w3.heap.size) ?_ ?_; (focus omega); intro f32) | skip); (refine olds_k (w.heap.size + 3) hb3 ?_ ?_; (focus (first | omega | (simp; omega) | (simp; done))); intro hc3 hf3)))) | fail
      all_goals
        go_wp2_with fail
        go_meet
        refine ⟨?_, ?_, ?_, ?_, ?_, ?_, ?_, ?_, ?_, ?_, ?_, ?_, ?_, ?_, ?_, ?_, ?_⟩
        all_goals try (go_simp; done)
        repeat (first | with_reducible exact hW | (with_reducible refine Below.drew ?_) | (with_reducible refine Below.alloc ?_ ?_ _; rotate_left; (focus (first | omega | (simp; omega) | (simp; done)))) | (with_reducible refine Below.setCell ?_ ?_ _; rotate_left; (focus (first | omega | (simp; omega) | (simp; done)))) | (with_reducible refine Below.trans ?_ (hb3.mono ?_); rotate_left; (focus (first | omega | (simp; omega) | (simp; done)))))
    case rest =>
      obtain ⟨x0, p0, p1, p2, q0, q1, q2, q3, r0, r1, r2, r3, g0, g1, g2, g3, hV⟩ := hcut
      clear hc hf hB hW
      have x1 := Nat.lt_of_succ_lt x0
      go_wp2_with fail
      refine (HH.out _).mono ?_
      rintro e w4 ⟨rfl, hb4⟩
      have hz4 := hb4.size
      try simp at hz4
      have f40 : w.heap.size < w4.heap.size := by omega
      have f41 : w.heap.size + 1 < w4.heap.size := by omega
      have f42 : w.heap.size + 2 < w4.heap.size := by omega
      refine olds_k (w.heap.size + 3) hb4 ?_ ?_
      · first | omega | (simp; omega) | (simp; done)
      intro hc4 hf4
      go_wp2_with fail
      refine bodyPost_ret (v := .tuple #[.agg #[.bool false, .int .i64 0, .int .i64 0, .int .i64 0], .bool false]) (by simp [results, Tryz.results24, go_sem, hc4, r0, r1, r2, r3]) rfl ⟨rfl, ?_⟩
      repeat (first | with_reducible exact hV | (with_reducible refine Below.drew ?_) | (with_reducible refine Below.alloc ?_ ?_ _; rotate_left; (focus (first | omega | (simp; omega) | (simp; done)))) | (with_reducible refine Below.setCell ?_ ?_ _; rotate_left; (focus (first | omega | (simp; omega) | (simp; done)))) | (with_reducible refine Below.trans ?_ (hb4.mono ?_); rotate_left; (focus (first | omega | (simp; omega) | (simp; done)))))

end Go.Proofs.YtadhapggcifldaaGreatDoor
namespace Go.Proofs.YtadhapggcifldaaGreatDoor
open Go.RowKit

set_option maxHeartbeats 1000000 in
theorem l2Width_any (s : Bool) (h l : Int) (w : World) :
    Calls Tryz.prog 20 #[.agg #[.bool s, .int .i64 h, .int .i64 l]] w fun e w' => e = .returned (.int .i64 (wd s)) ∧ Below w.heap.size w w' := by
  cases s <;>
  · go_enter Tryz.func20, Tryz.ntmps20
    go_wp2
    go_ret
    exact ⟨rfl, (Below.refl _ _).alloc (Nat.le_refl _) _⟩

theorem inB (x a b : Int) : (decide (a ≤ x) && decide (x ≤ b)) = decide (a ≤ x ∧ x ≤ b) := by
  by_cases h : a ≤ x <;> by_cases h1 : x ≤ b <;> simp [h, h1]

set_option maxHeartbeats 1000000 in
theorem l1In_any (x a b : Int) (w : World) :
    Calls Tryz.prog 19 #[.int .i64 x, .int .i64 a, .int .i64 b] w fun e w' => e = .returned (.bool (decide (a ≤ x ∧ x ≤ b))) ∧ w' = w := by
  rw [← inB]
  by_cases h : a ≤ x
  · rw [decide_eq_true h]
    go_enter Tryz.func19, Tryz.ntmps19
    go_wp2
    all_goals go_ret
    all_goals exact ⟨by simp_all, rfl⟩
  · rw [decide_eq_false h]
    go_enter Tryz.func19, Tryz.ntmps19
    go_wp2
    all_goals go_ret
    all_goals exact ⟨by simp_all, rfl⟩

theorem shr32' (r : BitVec 64) : (r.toNat : Int) / (4294967296 : Int) = ((r >>> 32).toNat : Int) := by
  rw [← shr32, Int.fdiv_eq_ediv_of_nonneg _ (by decide)]
  rfl

theorem hgA (b : Int) (h : b ≤ 0) : hg b = 0 := by simp [hg, h]
theorem hgB (b : Int) (h : ¬ b ≤ 0) (h1 : 64 ≤ b) : hg b = BitVec.allOnes 64 := by simp [hg, h, h1]

set_option maxHeartbeats 1000000 in
theorem l2High_any (b : Int) (h0 : -64 ≤ b) (h1 : b ≤ 128) (w : World) :
    Calls Tryz.prog 40 #[.int .i64 b] w fun e w' => e = .returned (.int .u64 (hg b).toNat) ∧ w' = w := by
  by_cases c : b ≤ 0
  · rw [hgA b c]
    go_enter Tryz.func40, Tryz.ntmps40
    go_wp2
    go_ret
    exact ⟨rfl, rfl⟩
  · by_cases d : 64 ≤ b
    · rw [hgB b c d]
      go_enter Tryz.func40, Tryz.ntmps40
      go_wp2
      go_ret
      exact ⟨rfl, rfl⟩
    · have e := hg_sh b (by omega) (by omega)
      rw [Nat.min_eq_left (by omega)] at e
      have u : IntKind.u64.wrap (64 - b) = 64 - b := by rw [IntKind.wrap_u64]; omega
      go_enter Tryz.func40, Tryz.ntmps40
      go_wp2
      go_ret
      exact ⟨rfl, rfl⟩

end Go.Proofs.YtadhapggcifldaaGreatDoor
namespace Go.Proofs.YtadhapggcifldaaGreatDoor
open Go.RowKit

set_option maxHeartbeats 1000000 in
theorem l2Mask_six (H L : BitVec 64) (n : Nat) (b : Int) (hn : n ≤ 128) (hb : b = 128 - (n : Int)) (w : World) :
    Calls Tryz.prog 21 #[.agg #[.bool true, .int .i64 H.toInt, .int .i64 L.toInt], .int .i64 b] w fun e w' => e = .returned (.agg #[.bool true, .int .i64 (cH n H).toInt, .int .i64 (cL n L).toInt]) ∧ Below w.heap.size w w' := by
  have a1 := l2High_any b (by omega) (by omega)
  have a2 := l2High_any (b - 64) (by omega) (by omega)
  rw [show hg b = ~~~ mh n by rw [hb]; exact hg_hi n hn] at a1
  rw [show hg (b - 64) = ~~~ ml n by rw [hb]; exact hg_lo n hn] at a2
  have H1 : Hid (∀ w, _) := a1
  have H2 : Hid (∀ w, _) := a2
  clear a1 a2
  have hb1 : -64 ≤ b - 64 := by omega
  have hb2 : b ≤ 128 := by omega
  have hw1 : wrap64 (b - 64) = b - 64 := by unfold wrap64; omega
  have hw2 : IntKind.i64.wrap (b - 64) = b - 64 := by rw [← w64]; exact hw1
  have k1 : IntKind.i64.wrap (bits .and .u64 (IntKind.u64.wrap H.toInt) ((~~~ mh n).toNat : Int)) = (cH n H).toInt := by rw [wrapU, bAndU, wrapI]; rfl
  have k2 : IntKind.i64.wrap (bits .and .u64 (IntKind.u64.wrap L.toInt) ((~~~ ml n).toNat : Int)) = (cL n L).toInt := by rw [wrapU, bAndU, wrapI]; rfl
  have k3 := k1
  have k4 := k2
  rw [← w64] at k3 k4
  generalize ~~~ mh n = M1 at k1 k3 H1
  generalize ~~~ ml n = M2 at k2 k4 H2
  generalize cH n H = X1 at k1 k3 ⊢
  generalize cL n L = X2 at k2 k4 ⊢
  clear hb hn
  go_enter Tryz.func21, Tryz.ntmps21
  go_wp2_with fail
  go_region_held3 (fun x => x.cell? ⟨w.heap.size, 0, none⟩ = some (.bool true) ∧ x.cell? ⟨w.heap.size, 1, none⟩ = some (.int .i64 H.toInt) ∧ x.cell? ⟨w.heap.size, 2, none⟩ = some (.int .i64 L.toInt)) ((go_simp)) (first | (go_at_call_of 40 (Value.int .i64 b); refine (H1.out _).mono ?_; rintro e w1 ⟨rfl, rfl⟩) | (go_at_call 40; refine (H2.out _).mono ?_; rintro e w1 ⟨rfl, rfl⟩))
  all_goals
    go_wp2_with fail
    refine bodyPost_ret (v := .agg #[.bool true, .int .i64 X1.toInt, .int .i64 X2.toInt]) (by simp [results, Tryz.results21, go_sem]) rfl ⟨rfl, ?_⟩
    repeat (first | with_reducible exact Below.refl _ _ | (with_reducible refine Below.drew ?_) | (with_reducible refine Below.alloc ?_ ?_ _; rotate_left; (focus (first | omega | (simp; omega) | (simp; done)))) | (with_reducible refine Below.setCell ?_ ?_ _; rotate_left; (focus (first | omega | (simp; omega) | (simp; done)))))

set_option maxHeartbeats 1000000 in
theorem l2Mask_four (L : BitVec 64) (n : Nat) (b : Int) (hn : n ≤ 32) (hL : L.toNat < 4294967296) (hb : b = 32 - (n : Int)) (w : World) :
    Calls Tryz.prog 21 #[.agg #[.bool false, .int .i64 0, .int .i64 L.toInt], .int .i64 b] w fun e w' => e = .returned (.agg #[.bool false, .int .i64 0, .int .i64 (cL n L).toInt]) ∧ Below w.heap.size w w' := by
  have a1 := l2High_any b (by omega) (by omega)
  have H1 : Hid (∀ w, _) := a1
  clear a1
  have k1 : bits .and .i64 L.toInt (IntKind.i64.wrap (((hg b).toNat : Int) / 4294967296)) = (cL n L).toInt := by
    rw [shr32', wrapI, bAnd, hb, msk32 L hL n hn]; rfl
  generalize hg b = M1 at k1 H1
  generalize cL n L = X2 at k1 ⊢
  clear hb hn hL
  go_enter Tryz.func21, Tryz.ntmps21
  go_wp2_with fail
  go_region_held3 (fun x => x.cell? ⟨w.heap.size, 0, none⟩ = some (.bool false) ∧ x.cell? ⟨w.heap.size, 1, none⟩ = some (.int .i64 0) ∧ x.cell? ⟨w.heap.size, 2, none⟩ = some (.int .i64 L.toInt)) ((go_simp)) ((go_at_call 40; refine (H1.out _).mono ?_; rintro e w1 ⟨rfl, rfl⟩))
  all_goals
    go_wp2_with fail
    refine bodyPost_ret (v := .agg #[.bool false, .int .i64 0, .int .i64 X2.toInt]) (by simp [results, Tryz.results21, go_sem]) rfl ⟨rfl, ?_⟩
    repeat (first | with_reducible exact Below.refl _ _ | (with_reducible refine Below.drew ?_) | (with_reducible refine Below.alloc ?_ ?_ _; rotate_left; (focus (first | omega | (simp; omega) | (simp; done)))) | (with_reducible refine Below.setCell ?_ ?_ _; rotate_left; (focus (first | omega | (simp; omega) | (simp; done)))))

end Go.Proofs.YtadhapggcifldaaGreatDoor
namespace Go.Proofs.YtadhapggcifldaaGreatDoor
open Go.RowKit

/-- whether (s, H, L) and b bits are a right prefix -/
def pokB (s : Bool) (H L : BitVec 64) (b : Int) : Bool := okB s H.toInt L.toInt && (decide (0 ≤ b ∧ b ≤ (wd s : Int)) && hasB s H L ((wd s : Int) - b).toNat s H L)

theorem okB_four (H L : BitVec 64) (h : okB false H.toInt L.toInt = true) : H = 0 ∧ L.toNat < 4294967296 := by
  simp [okB] at h
  have h1 : H = 0 := by
    have := BitVec.ofInt_toInt (x := H)
    rw [h.1] at this
    simpa using this.symm
  refine ⟨h1, ?_⟩
  have e := BitVec.toInt_eq_toNat_cond (x := L)
  have := L.isLt
  split at e <;> omega

theorem l2Mask_any (s : Bool) (H L : BitVec 64) (n : Nat) (b : Int) (hok : okB s H.toInt L.toInt = true) (hn : n ≤ wd s) (hb : b = (wd s : Int) - (n : Int)) (w : World) :
    Calls Tryz.prog 21 #[.agg #[.bool s, .int .i64 H.toInt, .int .i64 L.toInt], .int .i64 b] w fun e w' => e = .returned (.agg #[.bool s, .int .i64 (cH n H).toInt, .int .i64 (cL n L).toInt]) ∧ Below w.heap.size w w' := by
  cases s
  · obtain ⟨rfl, hL⟩ := okB_four H L hok
    have := l2Mask_four L n b (by simpa [wd] using hn) hL (by simpa [wd] using hb) w
    have z : (cH n (0 : BitVec 64)) = 0 := by simp [cH]
    rw [z]
    simpa using this
  · exact l2Mask_six H L n b (by simpa [wd] using hn) (by simpa [wd] using hb) w

theorem four_of_below {W X : World} {n b : Nat} {v0 v1 v2 v3 : Value} (hB : Below n W X) (hb : b < n)
    (k : W.cell? ⟨b, 0, none⟩ = some v0 ∧ W.cell? ⟨b, 1, none⟩ = some v1 ∧ W.cell? ⟨b, 2, none⟩ = some v2 ∧ W.cell? ⟨b, 3, none⟩ = some v3) :
    X.cell? ⟨b, 0, none⟩ = some v0 ∧ X.cell? ⟨b, 1, none⟩ = some v1 ∧ X.cell? ⟨b, 2, none⟩ = some v2 ∧ X.cell? ⟨b, 3, none⟩ = some v3 := by
  obtain ⟨k0, k1, k2, k3⟩ := k
  exact ⟨(hB.cell hb).trans k0, (hB.cell hb).trans k1, (hB.cell hb).trans k2, (hB.cell hb).trans k3⟩

set_option maxHeartbeats 1000000 in
theorem sPrefixOk_bad (s : Bool) (H L : BitVec 64) (b : Int) (hok : okB s H.toInt L.toInt = false) (w : World) :
    Calls Tryz.prog 6 #[.agg #[.bool s, .int .i64 H.toInt, .int .i64 L.toInt, .int .i64 b]] w fun e w' => e = .returned (.bool false) ∧ Below w.heap.size w w' := by
  have HK : Hid (∀ w, _) := sAddrOk_any s H.toInt L.toInt
  rw [hok] at HK
  clear hok
  go_enter Tryz.func6, Tryz.ntmps6
  go_wp2_with fail
  refine wp_region_held_drew (S := (fun x => x.cell? ⟨w.heap.size, 0, none⟩ = some (.bool s) ∧ x.cell? ⟨w.heap.size, 1, none⟩ = some (.int .i64 H.toInt) ∧ x.cell? ⟨w.heap.size, 2, none⟩ = some (.int .i64 L.toInt) ∧ x.cell? ⟨w.heap.size, 3, none⟩ = some (.int .i64 b))) (by kernel_rfl) ?_ (fun hHeld => ?_)
  · try dsimp only
    (refine four_of_below (W := w.alloc (.cells #[.bool s, .int .i64 H.toInt, .int .i64 L.toInt, .int .i64 b] 27)) (n := w.heap.size + 1) ?_ (by omega) ⟨by simp [go_sem], by simp [go_sem], by simp [go_sem], by simp [go_sem]⟩; repeat (first | with_reducible exact Below.refl _ _ | (with_reducible refine Below.drew ?_) | (with_reducible refine Below.alloc ?_ ?_ _; rotate_left; (focus (first | omega | (simp; omega) | (simp; done)))) | (with_reducible refine Below.setCell ?_ ?_ _; rotate_left; (focus (first | omega | (simp; omega) | (simp; done))))))
  refine wpAnyH_take (i := 0) (v := ?_) rfl (by kernel_rfl) (by kernel_rfl) (by kernel_rfl) (fun _ _ _ h => h) (Or.inl ⟨by rfl, ?_⟩) (by assumption) ?_
  rotate_left
  · intro w hSw
    try dsimp only at hSw
    go_simp
    try with_reducible rfl
  try simp only [go_sem]
  refine wpAnyH_take (i := 1) (v := ?_) rfl (by kernel_rfl) (by kernel_rfl) (by kernel_rfl) (fun _ _ _ h => h) (Or.inl ⟨by rfl, ?_⟩) (by assumption) ?_
  rotate_left
  · intro w hSw
    try dsimp only at hSw
    go_simp
    try with_reducible rfl
  try simp only [go_sem]
  refine wpAnyH_ready (rs := [2]) (by kernel_rfl) (by simp) ?_
  refine AllReadyH.cons rfl (fun K hK => ?_) AllReadyH.nil
  go_simp
  go_wp2_with ((go_at_call 18; refine (HK.out _).mono ?_; rintro e w1 ⟨rfl, hb1⟩; have hz1 := hb1.size; (try simp at hz1); (first | (refine ltk (w.heap.size) (w1.heap.size) ?_ ?_; (focus omega); intro f10) | skip); (refine olds_k (w.heap.size + 1) hb1 ?_ ?_; (focus (first | omega | (simp; omega) | (simp; done))); intro hc1 hf1)))
  refine hK.out _ _ ?_ (fun hHeld => ?_)
  · try dsimp only
    (refine four_of_below (W := w.alloc (.cells #[.bool s, .int .i64 H.toInt, .int .i64 L.toInt, .int .i64 b] 27)) (n := w.heap.size + 1) ?_ (by omega) ⟨by simp [go_sem], by simp [go_sem], by simp [go_sem], by simp [go_sem]⟩; repeat (first | with_reducible exact Below.refl _ _ | (with_reducible refine Below.drew ?_) | (with_reducible refine Below.alloc ?_ ?_ _; rotate_left; (focus (first | omega | (simp; omega) | (simp; done)))) | (with_reducible refine Below.setCell ?_ ?_ _; rotate_left; (focus (first | omega | (simp; omega) | (simp; done)))) | (with_reducible refine Below.trans ?_ (hb1.mono ?_); rotate_left; (focus (first | omega | (simp; omega) | (simp; done))))))
  clear hK K
  refine wpAnyH_take (i := 3) (v := ?_) rfl (by kernel_rfl) (by kernel_rfl) (by kernel_rfl) (fun _ _ _ h => h) (Or.inl ⟨by rfl, ?_⟩) (by assumption) ?_
  rotate_left
  · intro w hSw
    try dsimp only at hSw
    go_simp
    try with_reducible rfl
  try simp only [go_sem]
  refine wpAnyH_take (i := 4) (v := undef) rfl (by kernel_rfl) (by kernel_rfl) (by kernel_rfl) (fun _ _ _ h => h) (Or.inr ⟨by rfl, rfl⟩) (by assumption) ?_
  try simp only [go_sem]
  refine wpAnyH_take (i := 5) (v := undef) rfl (by kernel_rfl) (by kernel_rfl) (by kernel_rfl) (fun _ _ _ h => h) (Or.inr ⟨by rfl, rfl⟩) (by assumption) ?_
  try simp only [go_sem]
  refine wpAnyH_take (i := 6) (v := undef) rfl (by kernel_rfl) (by kernel_rfl) (by kernel_rfl) (fun _ _ _ h => h) (Or.inr ⟨by rfl, rfl⟩) (by assumption) ?_
  try simp only [go_sem]
  refine wpAnyH_take (i := 7) (v := undef) rfl (by kernel_rfl) (by kernel_rfl) (by kernel_rfl) (fun _ _ _ h => h) (Or.inr ⟨by rfl, rfl⟩) (by assumption) ?_
  try simp only [go_sem]
  refine wpAnyH_ready (rs := [8]) (by kernel_rfl) (by simp) ?_
  refine AllReadyH.cons rfl (fun K hK => ?_) AllReadyH.nil
  go_simp
  refine hK.out _ _ ?_ (fun hHeld => ?_)
  · try dsimp only
    (refine four_of_below (W := w.alloc (.cells #[.bool s, .int .i64 H.toInt, .int .i64 L.toInt, .int .i64 b] 27)) (n := w.heap.size + 1) ?_ (by omega) ⟨by simp [go_sem], by simp [go_sem], by simp [go_sem], by simp [go_sem]⟩; repeat (first | with_reducible exact Below.refl _ _ | (with_reducible refine Below.drew ?_) | (with_reducible refine Below.alloc ?_ ?_ _; rotate_left; (focus (first | omega | (simp; omega) | (simp; done)))) | (with_reducible refine Below.setCell ?_ ?_ _; rotate_left; (focus (first | omega | (simp; omega) | (simp; done)))) | (with_reducible refine Below.trans ?_ (hb1.mono ?_); rotate_left; (focus (first | omega | (simp; omega) | (simp; done))))))
  clear hK K
  refine wpAnyH_ready (rs := [9]) (by kernel_rfl) (by simp) ?_
  refine AllReadyH.cons rfl (fun K hK => ?_) AllReadyH.nil
  go_simp
  refine hK.out _ _ ?_ (fun hHeld => ?_)
  · try dsimp only
    (refine four_of_below (W := w.alloc (.cells #[.bool s, .int .i64 H.toInt, .int .i64 L.toInt, .int .i64 b] 27)) (n := w.heap.size + 1) ?_ (by omega) ⟨by simp [go_sem], by simp [go_sem], by simp [go_sem], by simp [go_sem]⟩; repeat (first | with_reducible exact Below.refl _ _ | (with_reducible refine Below.drew ?_) | (with_reducible refine Below.alloc ?_ ?_ _; rotate_left; (focus (first | omega | (simp; omega) | (simp; done)))) | (with_reducible refine Below.setCell ?_ ?_ _; rotate_left; (focus (first | omega | (simp; omega) | (simp; done)))) | (with_reducible refine Below.trans ?_ (hb1.mono ?_); rotate_left; (focus (first | omega | (simp; omega) | (simp; done))))))
  clear hK K
  refine wpAnyH_take (i := 10) (v := ?_) rfl (by kernel_rfl) (by kernel_rfl) (by kernel_rfl) (fun _ _ _ h => h) (Or.inl ⟨by rfl, ?_⟩) (by assumption) ?_
  rotate_left
  · intro w hSw
    try dsimp only at hSw
    go_simp
    try with_reducible rfl
  try simp only [go_sem]
  refine wpAnyH_take (i := 11) (v := ?_) rfl (by kernel_rfl) (by kernel_rfl) (by kernel_rfl) (fun _ _ _ h => h) (Or.inl ⟨by rfl, ?_⟩) (by assumption) ?_
  rotate_left
  · intro w hSw
    try dsimp only at hSw
    go_simp
    try with_reducible rfl
  try simp only [go_sem]
  refine wpAnyH_take (i := 12) (v := undef) rfl (by kernel_rfl) (by kernel_rfl) (by kernel_rfl) (fun _ _ _ h => h) (Or.inr ⟨by rfl, rfl⟩) (by assumption) ?_
  try simp only [go_sem]
  refine wpAnyH_take (i := 13) (v := undef) rfl (by kernel_rfl) (by kernel_rfl) (by kernel_rfl) (fun _ _ _ h => h) (Or.inr ⟨by rfl, rfl⟩) (by assumption) ?_
  try simp only [go_sem]
  refine wpAnyH_take (i := 14) (v := undef) rfl (by kernel_rfl) (by kernel_rfl) (by kernel_rfl) (fun _ _ _ h => h) (Or.inr ⟨by rfl, rfl⟩) (by assumption) ?_
  try simp only [go_sem]
  refine wpAnyH_take (i := 15) (v := undef) rfl (by kernel_rfl) (by kernel_rfl) (by kernel_rfl) (fun _ _ _ h => h) (Or.inr ⟨by rfl, rfl⟩) (by assumption) ?_
  try simp only [go_sem]
  refine wpAnyH_take (i := 17) (v := undef) rfl (by kernel_rfl) (by kernel_rfl) (by kernel_rfl) (fun _ _ _ h => h) (Or.inr ⟨by rfl, rfl⟩) (by assumption) ?_
  try simp only [go_sem]
  refine wpAnyH_take (i := 18) (v := undef) rfl (by kernel_rfl) (by kernel_rfl) (by kernel_rfl) (fun _ _ _ h => h) (Or.inr ⟨by rfl, rfl⟩) (by assumption) ?_
  try simp only [go_sem]
  refine wpAnyH_ready (rs := [16]) (by kernel_rfl) (by simp) ?_
  refine AllReadyH.cons rfl (fun K hK => ?_) AllReadyH.nil
  go_simp
  refine hK.out _ _ ?_ (fun hHeld => ?_)
  · try dsimp only
    (refine four_of_below (W := w.alloc (.cells #[.bool s, .int .i64 H.toInt, .int .i64 L.toInt, .int .i64 b] 27)) (n := w.heap.size + 1) ?_ (by omega) ⟨by simp [go_sem], by simp [go_sem], by simp [go_sem], by simp [go_sem]⟩; repeat (first | with_reducible exact Below.refl _ _ | (with_reducible refine Below.drew ?_) | (with_reducible refine Below.alloc ?_ ?_ _; rotate_left; (focus (first | omega | (simp; omega) | (simp; done)))) | (with_reducible refine Below.setCell ?_ ?_ _; rotate_left; (focus (first | omega | (simp; omega) | (simp; done)))) | (with_reducible refine Below.trans ?_ (hb1.mono ?_); rotate_left; (focus (first | omega | (simp; omega) | (simp; done))))))
  clear hK K
  refine wpAnyH_take (i := 19) (v := undef) rfl (by kernel_rfl) (by kernel_rfl) (by kernel_rfl) (fun _ _ _ h => h) (Or.inr ⟨by rfl, rfl⟩) (by assumption) ?_
  simp only [List.getElem_toArray, List.getElem_cons_succ, List.getElem_cons_zero]
  try simp only [go_sem]
  refine wpAnyH_take (i := 20) (v := ?_) rfl (by kernel_rfl) (by kernel_rfl) (by kernel_rfl) (fun _ _ _ h => h) (Or.inl ⟨by rfl, ?_⟩) (by assumption) ?_
  rotate_left
  · intro w hSw
    try dsimp only at hSw
    go_simp
    try with_reducible rfl
  simp only [List.getElem_toArray, List.getElem_cons_succ, List.getElem_cons_zero]
  try simp only [go_sem]
  refine wpAnyH_take (i := 21) (v := ?_) rfl (by kernel_rfl) (by kernel_rfl) (by kernel_rfl) (fun _ _ _ h => h) (Or.inl ⟨by rfl, ?_⟩) (by assumption) ?_
  rotate_left
  · intro w hSw
    try dsimp only at hSw
    go_simp
    try with_reducible rfl
  simp only [List.getElem_toArray, List.getElem_cons_succ, List.getElem_cons_zero]
  try simp only [go_sem]
  refine wpAnyH_done (by kernel_rfl) ?_ _
  go_wp2_with fail
  go_ret
  refine ⟨rfl, ?_⟩
  repeat (first | with_reducible exact Below.refl _ _ | (with_reducible refine Below.drew ?_) | (with_reducible refine Below.alloc ?_ ?_ _; rotate_left; (focus (first | omega | (simp; omega) | (simp; done)))) | (with_reducible refine Below.setCell ?_ ?_ _; rotate_left; (focus (first | omega | (simp; omega) | (simp; done)))) | (with_reducible refine Below.trans ?_ (hb1.mono ?_); rotate_left; (focus (first | omega | (simp; omega) | (simp; done)))))

set_option maxHeartbeats 1000000 in
theorem sPrefixOk_out (s : Bool) (H L : BitVec 64) (b : Int) (hok : okB s H.toInt L.toInt = true) (hin : decide (0 ≤ b ∧ b ≤ (wd s : Int)) = false) (w : World) :
    Calls Tryz.prog 6 #[.agg #[.bool s, .int .i64 H.toInt, .int .i64 L.toInt, .int .i64 b]] w fun e w' => e = .returned (.bool false) ∧ Below w.heap.size w w' := by
  have HK : Hid (∀ w, _) := sAddrOk_any s H.toInt L.toInt
  rw [hok] at HK
  clear hok
  have HI : Hid (∀ w, _) := l1In_any b 0 (wd s)
  rw [hin] at HI
  clear hin
  go_enter Tryz.func6, Tryz.ntmps6
  go_wp2_with fail
  refine wp_region_held_drew (S := (fun x => x.cell? ⟨w.heap.size, 0, none⟩ = some (.bool s) ∧ x.cell? ⟨w.heap.size, 1, none⟩ = some (.int .i64 H.toInt) ∧ x.cell? ⟨w.heap.size, 2, none⟩ = some (.int .i64 L.toInt) ∧ x.cell? ⟨w.heap.size, 3, none⟩ = some (.int .i64 b))) (by kernel_rfl) ?_ (fun hHeld => ?_)
  · try dsimp only
    (refine four_of_below (W := w.alloc (.cells #[.bool s, .int .i64 H.toInt, .int .i64 L.toInt, .int .i64 b] 27)) (n := w.heap.size + 1) ?_ (by omega) ⟨by simp [go_sem], by simp [go_sem], by simp [go_sem], by simp [go_sem]⟩; repeat (first | with_reducible exact Below.refl _ _ | (with_reducible refine Below.drew ?_) | (with_reducible refine Below.alloc ?_ ?_ _; rotate_left; (focus (first | omega | (simp; omega) | (simp; done)))) | (with_reducible refine Below.setCell ?_ ?_ _; rotate_left; (focus (first | omega | (simp; omega) | (simp; done))))))
  refine wpAnyH_take (i := 0) (v := ?_) rfl (by kernel_rfl) (by kernel_rfl) (by kernel_rfl) (fun _ _ _ h => h) (Or.inl ⟨by rfl, ?_⟩) (by assumption) ?_
  rotate_left
  · intro w hSw
    try dsimp only at hSw
    go_simp
    try with_reducible rfl
  try simp only [go_sem]
  refine wpAnyH_take (i := 1) (v := ?_) rfl (by kernel_rfl) (by kernel_rfl) (by kernel_rfl) (fun _ _ _ h => h) (Or.inl ⟨by rfl, ?_⟩) (by assumption) ?_
  rotate_left
  · intro w hSw
    try dsimp only at hSw
    go_simp
    try with_reducible rfl
  try simp only [go_sem]
  refine wpAnyH_ready (rs := [2]) (by kernel_rfl) (by simp) ?_
  refine AllReadyH.cons rfl (fun K hK => ?_) AllReadyH.nil
  go_simp
  go_wp2_with ((go_at_call 18; refine (HK.out _).mono ?_; rintro e w1 ⟨rfl, hb1⟩; have hz1 := hb1.size; (try simp at hz1); (first | (refine ltk (w.heap.size) (w1.heap.size) ?_ ?_; (focus omega); intro f10) | skip); (refine olds_k (w.heap.size + 1) hb1 ?_ ?_; (focus (first | omega | (simp; omega) | (simp; done))); intro hc1 hf1)))
  refine hK.out _ _ ?_ (fun hHeld => ?_)
  · try dsimp only
    (refine four_of_below (W := w.alloc (.cells #[.bool s, .int .i64 H.toInt, .int .i64 L.toInt, .int .i64 b] 27)) (n := w.heap.size + 1) ?_ (by omega) ⟨by simp [go_sem], by simp [go_sem], by simp [go_sem], by simp [go_sem]⟩; repeat (first | with_reducible exact Below.refl _ _ | (with_reducible refine Below.drew ?_) | (with_reducible refine Below.alloc ?_ ?_ _; rotate_left; (focus (first | omega | (simp; omega) | (simp; done)))) | (with_reducible refine Below.setCell ?_ ?_ _; rotate_left; (focus (first | omega | (simp; omega) | (simp; done)))) | (with_reducible refine Below.trans ?_ (hb1.mono ?_); rotate_left; (focus (first | omega | (simp; omega) | (simp; done))))))
  clear hK K
  refine wpAnyH_take (i := 3) (v := ?_) rfl (by kernel_rfl) (by kernel_rfl) (by kernel_rfl) (fun _ _ _ h => h) (Or.inl ⟨by rfl, ?_⟩) (by assumption) ?_
  rotate_left
  · intro w hSw
    try dsimp only at hSw
    go_simp
    try with_reducible rfl
  try simp only [go_sem]
  refine wpAnyH_take (i := 4) (v := ?_) rfl (by kernel_rfl) (by kernel_rfl) (by kernel_rfl) (fun _ _ _ h => h) (Or.inl ⟨by rfl, ?_⟩) (by assumption) ?_
  rotate_left
  · intro w hSw
    try dsimp only at hSw
    go_simp
    try with_reducible rfl
  try simp only [go_sem]
  refine wpAnyH_take (i := 5) (v := ?_) rfl (by kernel_rfl) (by kernel_rfl) (by kernel_rfl) (fun _ _ _ h => h) (Or.inl ⟨by rfl, ?_⟩) (by assumption) ?_
  rotate_left
  · intro w hSw
    try dsimp only at hSw
    go_simp
    try with_reducible rfl
  try simp only [go_sem]
  refine wpAnyH_take (i := 6) (v := ?_) rfl (by kernel_rfl) (by kernel_rfl) (by kernel_rfl) (fun _ _ _ h => h) (Or.inl ⟨by rfl, ?_⟩) (by assumption) ?_
  rotate_left
  · intro w hSw
    try dsimp only at hSw
    go_simp
    try with_reducible rfl
  try simp only [go_sem]
  refine wpAnyH_take (i := 7) (v := ?_) rfl (by kernel_rfl) (by kernel_rfl) (by kernel_rfl) (fun _ _ _ h => h) (Or.inl ⟨by rfl, ?_⟩) (by assumption) ?_
  rotate_left
  · intro w hSw
    try dsimp only at hSw
    go_simp
    try with_reducible rfl
  try simp only [go_sem]
  refine wpAnyH_ready (rs := [8]) (by kernel_rfl) (by simp) ?_
  refine AllReadyH.cons rfl (fun K hK => ?_) AllReadyH.nil
  go_simp
  go_wp2_with ((go_at_call 20; refine (l2Width_any s H.toInt L.toInt _).mono ?_; rintro e w2 ⟨rfl, hb2⟩; have hz2 := hb2.size; (try simp at hz2); (first | (refine ltk (w.heap.size) (w2.heap.size) ?_ ?_; (focus omega); intro f20) | skip); (refine olds_k (w.heap.size + 1) hb2 ?_ ?_; (focus (first | omega | (simp; omega) | (simp; done))); intro hc2 hf2)))
  refine hK.out _ _ ?_ (fun hHeld => ?_)
  · try dsimp only
    (refine four_of_below (W := w.alloc (.cells #[.bool s, .int .i64 H.toInt, .int .i64 L.toInt, .int .i64 b] 27)) (n := w.heap.size + 1) ?_ (by omega) ⟨by simp [go_sem], by simp [go_sem], by simp [go_sem], by simp [go_sem]⟩; repeat (first | with_reducible exact Below.refl _ _ | (with_reducible refine Below.drew ?_) | (with_reducible refine Below.alloc ?_ ?_ _; rotate_left; (focus (first | omega | (simp; omega) | (simp; done)))) | (with_reducible refine Below.setCell ?_ ?_ _; rotate_left; (focus (first | omega | (simp; omega) | (simp; done)))) | (with_reducible refine Below.trans ?_ (hb2.mono ?_); rotate_left; (focus (first | omega | (simp; omega) | (simp; done)))) | (with_reducible refine Below.trans ?_ (hb1.mono ?_); rotate_left; (focus (first | omega | (simp; omega) | (simp; done))))))
  clear hK K
  refine wpAnyH_ready (rs := [9]) (by kernel_rfl) (by simp) ?_
  refine AllReadyH.cons rfl (fun K hK => ?_) AllReadyH.nil
  go_simp
  go_wp2_with ((go_at_call 19; refine (HI.out _).mono ?_; rintro e w3 ⟨rfl, rfl⟩))
  refine hK.out _ _ ?_ (fun hHeld => ?_)
  · try dsimp only
    (refine four_of_below (W := w.alloc (.cells #[.bool s, .int .i64 H.toInt, .int .i64 L.toInt, .int .i64 b] 27)) (n := w.heap.size + 1) ?_ (by omega) ⟨by simp [go_sem], by simp [go_sem], by simp [go_sem], by simp [go_sem]⟩; repeat (first | with_reducible exact Below.refl _ _ | (with_reducible refine Below.drew ?_) | (with_reducible refine Below.alloc ?_ ?_ _; rotate_left; (focus (first | omega | (simp; omega) | (simp; done)))) | (with_reducible refine Below.setCell ?_ ?_ _; rotate_left; (focus (first | omega | (simp; omega) | (simp; done)))) | (with_reducible refine Below.trans ?_ (hb2.mono ?_); rotate_left; (focus (first | omega | (simp; omega) | (simp; done)))) | (with_reducible refine Below.trans ?_ (hb1.mono ?_); rotate_left; (focus (first | omega | (simp; omega) | (simp; done))))))
  clear hK K
  refine wpAnyH_take (i := 10) (v := ?_) rfl (by kernel_rfl) (by kernel_rfl) (by kernel_rfl) (fun _ _ _ h => h) (Or.inl ⟨by rfl, ?_⟩) (by assumption) ?_
  rotate_left
  · intro w hSw
    try dsimp only at hSw
    go_simp
    try with_reducible rfl
  try simp only [go_sem]
  refine wpAnyH_take (i := 11) (v := ?_) rfl (by kernel_rfl) (by kernel_rfl) (by kernel_rfl) (fun _ _ _ h => h) (Or.inl ⟨by rfl, ?_⟩) (by assumption) ?_
  rotate_left
  · intro w hSw
    try dsimp only at hSw
    go_simp
    try with_reducible rfl
  try simp only [go_sem]
  refine wpAnyH_take (i := 12) (v := undef) rfl (by kernel_rfl) (by kernel_rfl) (by kernel_rfl) (fun _ _ _ h => h) (Or.inr ⟨by rfl, rfl⟩) (by assumption) ?_
  try simp only [go_sem]
  refine wpAnyH_take (i := 13) (v := undef) rfl (by kernel_rfl) (by kernel_rfl) (by kernel_rfl) (fun _ _ _ h => h) (Or.inr ⟨by rfl, rfl⟩) (by assumption) ?_
  try simp only [go_sem]
  refine wpAnyH_take (i := 14) (v := undef) rfl (by kernel_rfl) (by kernel_rfl) (by kernel_rfl) (fun _ _ _ h => h) (Or.inr ⟨by rfl, rfl⟩) (by assumption) ?_
  try simp only [go_sem]
  refine wpAnyH_take (i := 15) (v := undef) rfl (by kernel_rfl) (by kernel_rfl) (by kernel_rfl) (fun _ _ _ h => h) (Or.inr ⟨by rfl, rfl⟩) (by assumption) ?_
  try simp only [go_sem]
  refine wpAnyH_take (i := 17) (v := undef) rfl (by kernel_rfl) (by kernel_rfl) (by kernel_rfl) (fun _ _ _ h => h) (Or.inr ⟨by rfl, rfl⟩) (by assumption) ?_
  try simp only [go_sem]
  refine wpAnyH_take (i := 18) (v := undef) rfl (by kernel_rfl) (by kernel_rfl) (by kernel_rfl) (fun _ _ _ h => h) (Or.inr ⟨by rfl, rfl⟩) (by assumption) ?_
  try simp only [go_sem]
  refine wpAnyH_ready (rs := [16]) (by kernel_rfl) (by simp) ?_
  refine AllReadyH.cons rfl (fun K hK => ?_) AllReadyH.nil
  go_simp
  refine hK.out _ _ ?_ (fun hHeld => ?_)
  · try dsimp only
    (refine four_of_below (W := w.alloc (.cells #[.bool s, .int .i64 H.toInt, .int .i64 L.toInt, .int .i64 b] 27)) (n := w.heap.size + 1) ?_ (by omega) ⟨by simp [go_sem], by simp [go_sem], by simp [go_sem], by simp [go_sem]⟩; repeat (first | with_reducible exact Below.refl _ _ | (with_reducible refine Below.drew ?_) | (with_reducible refine Below.alloc ?_ ?_ _; rotate_left; (focus (first | omega | (simp; omega) | (simp; done)))) | (with_reducible refine Below.setCell ?_ ?_ _; rotate_left; (focus (first | omega | (simp; omega) | (simp; done)))) | (with_reducible refine Below.trans ?_ (hb2.mono ?_); rotate_left; (focus (first | omega | (simp; omega) | (simp; done)))) | (with_reducible refine Below.trans ?_ (hb1.mono ?_); rotate_left; (focus (first | omega | (simp; omega) | (simp; done))))))
  clear hK K
  refine wpAnyH_take (i := 19) (v := undef) rfl (by kernel_rfl) (by kernel_rfl) (by kernel_rfl) (fun _ _ _ h => h) (Or.inr ⟨by rfl, rfl⟩) (by assumption) ?_
  simp only [List.getElem_toArray, List.getElem_cons_succ, List.getElem_cons_zero]
  try simp only [go_sem]
  refine wpAnyH_take (i := 20) (v := ?_) rfl (by kernel_rfl) (by kernel_rfl) (by kernel_rfl) (fun _ _ _ h => h) (Or.inl ⟨by rfl, ?_⟩) (by assumption) ?_
  rotate_left
  · intro w hSw
    try dsimp only at hSw
    go_simp
    try with_reducible rfl
  simp only [List.getElem_toArray, List.getElem_cons_succ, List.getElem_cons_zero]
  try simp only [go_sem]
  refine wpAnyH_take (i := 21) (v := ?_) rfl (by kernel_rfl) (by kernel_rfl) (by kernel_rfl) (fun _ _ _ h => h) (Or.inl ⟨by rfl, ?_⟩) (by assumption) ?_
  rotate_left
  · intro w hSw
    try dsimp only at hSw
    go_simp
    try with_reducible rfl
  simp only [List.getElem_toArray, List.getElem_cons_succ, List.getElem_cons_zero]
  try simp only [go_sem]
  refine wpAnyH_done (by kernel_rfl) ?_ _
  go_wp2_with fail
  go_ret
  refine ⟨rfl, ?_⟩
  repeat (first | with_reducible exact Below.refl _ _ | (with_reducible refine Below.drew ?_) | (with_reducible refine Below.alloc ?_ ?_ _; rotate_left; (focus (first | omega | (simp; omega) | (simp; done)))) | (with_reducible refine Below.setCell ?_ ?_ _; rotate_left; (focus (first | omega | (simp; omega) | (simp; done)))) | (with_reducible refine Below.trans ?_ (hb2.mono ?_); rotate_left; (focus (first | omega | (simp; omega) | (simp; done)))) | (with_reducible refine Below.trans ?_ (hb1.mono ?_); rotate_left; (focus (first | omega | (simp; omega) | (simp; done)))))

set_option maxHeartbeats 1000000 in
theorem sPrefixOk_in (s : Bool) (H L : BitVec 64) (b : Int) (n : Nat) (hok : okB s H.toInt L.toInt = true) (hin : decide (0 ≤ b ∧ b ≤ (wd s : Int)) = true) (hn : n ≤ wd s) (hb : b = (wd s : Int) - n) (w : World) :
    Calls Tryz.prog 6 #[.agg #[.bool s, .int .i64 H.toInt, .int .i64 L.toInt, .int .i64 b]] w fun e w' => e = .returned (.bool (hasB s H L n s H L)) ∧ Below w.heap.size w w' := by
  have HM : Hid (∀ w, _) := l2Mask_any s H L n b hok hn hb
  have hq := hasEq s H L n s H L
  have HK : Hid (∀ w, _) := sAddrOk_any s H.toInt L.toInt
  rw [hok] at HK
  clear hok
  have HI : Hid (∀ w, _) := l1In_any b 0 (wd s)
  rw [hin] at HI
  clear hin
  clear hn hb
  generalize hasB s H L n s H L = B at hq ⊢
  go_enter Tryz.func6, Tryz.ntmps6
  go_wp2_with fail
  go_region_held3 (fun x => x.cell? ⟨w.heap.size, 0, none⟩ = some (.bool s) ∧ x.cell? ⟨w.heap.size, 1, none⟩ = some (.int .i64 H.toInt) ∧ x.cell? ⟨w.heap.size, 2, none⟩ = some (.int .i64 L.toInt) ∧ x.cell? ⟨w.heap.size, 3, none⟩ = some (.int .i64 b)) ((refine four_of_below (W := w.alloc (.cells #[.bool s, .int .i64 H.toInt, .int .i64 L.toInt, .int .i64 b] 27)) (n := w.heap.size + 1) ?_ (by omega) ⟨by simp [go_sem], by simp [go_sem], by simp [go_sem], by simp [go_sem]⟩; repeat (first | with_reducible exact Below.refl _ _ | (with_reducible refine Below.drew ?_) | (with_reducible refine Below.alloc ?_ ?_ _; rotate_left; (focus (first | omega | (simp; omega) | (simp; done)))) | (with_reducible refine Below.setCell ?_ ?_ _; rotate_left; (focus (first | omega | (simp; omega) | (simp; done)))) | (with_reducible refine Below.trans ?_ (hb4.mono ?_); rotate_left; (focus (first | omega | (simp; omega) | (simp; done)))) | (with_reducible refine Below.trans ?_ (hb2.mono ?_); rotate_left; (focus (first | omega | (simp; omega) | (simp; done)))) | (with_reducible refine Below.trans ?_ (hb1.mono ?_); rotate_left; (focus (first | omega | (simp; omega) | (simp; done))))))) (first | (go_at_call 18; refine (HK.out _).mono ?_; rintro e w1 ⟨rfl, hb1⟩; have hz1 := hb1.size; (try simp at hz1); (first | (refine ltk (w.heap.size) (w1.heap.size) ?_ ?_; (focus omega); intro f10) | skip); (refine olds_k (w.heap.size + 1) hb1 ?_ ?_; (focus (first | omega | (simp; omega) | (simp; done))); intro hc1 hf1)) | (go_at_call 20; refine (l2Width_any s H.toInt L.toInt _).mono ?_; rintro e w2 ⟨rfl, hb2⟩; have hz2 := hb2.size; (try simp at hz2); (first | (refine ltk (w.heap.size) (w2.heap.size) ?_ ?_; (focus omega); intro f20) | skip); (refine olds_k (w.heap.size + 1) hb2 ?_ ?_; (focus (first | omega | (simp; omega) | (simp; done))); intro hc2 hf2)) | (go_at_call 19; refine (HI.out _).mono ?_; rintro e w3 ⟨rfl, rfl⟩) | (go_at_call 21; refine (HM.out _).mono ?_; rintro e w4 ⟨rfl, hb4⟩; have hz4 := hb4.size; (try simp at hz4); (first | (refine ltk (w.heap.size) (w4.heap.size) ?_ ?_; (focus omega); intro f40) | skip); (refine olds_k (w.heap.size + 1) hb4 ?_ ?_; (focus (first | omega | (simp; omega) | (simp; done))); intro hc4 hf4)))
  all_goals
    go_wp2_with fail
    go_ret
    refine ⟨rfl, ?_⟩
    repeat (first | with_reducible exact Below.refl _ _ | (with_reducible refine Below.drew ?_) | (with_reducible refine Below.alloc ?_ ?_ _; rotate_left; (focus (first | omega | (simp; omega) | (simp; done)))) | (with_reducible refine Below.setCell ?_ ?_ _; rotate_left; (focus (first | omega | (simp; omega) | (simp; done)))) | (with_reducible refine Below.trans ?_ (hb4.mono ?_); rotate_left; (focus (first | omega | (simp; omega) | (simp; done)))) | (with_reducible refine Below.trans ?_ (hb2.mono ?_); rotate_left; (focus (first | omega | (simp; omega) | (simp; done)))) | (with_reducible refine Below.trans ?_ (hb1.mono ?_); rotate_left; (focus (first | omega | (simp; omega) | (simp; done)))))

theorem sPrefixOk_any (s : Bool) (H L : BitVec 64) (b : Int) (w : World) :
    Calls Tryz.prog 6 #[.agg #[.bool s, .int .i64 H.toInt, .int .i64 L.toInt, .int .i64 b]] w fun e w' => e = .returned (.bool (pokB s H L b)) ∧ Below w.heap.size w w' := by
  cases hok : okB s H.toInt L.toInt
  · rw [show pokB s H L b = false by simp [pokB, hok]]
    exact sPrefixOk_bad s H L b hok w
  · cases hin : decide (0 ≤ b ∧ b ≤ (wd s : Int))
    · rw [show pokB s H L b = false by rw [pokB, hok, hin]; rfl]
      exact sPrefixOk_out s H L b hok hin w
    · have h := of_decide_eq_true hin
      rw [show pokB s H L b = hasB s H L ((wd s : Int) - b).toNat s H L by rw [pokB, hok, hin]; rfl]
      exact sPrefixOk_in s H L b _ hok hin (by omega) (by omega) w

end Go.Proofs.YtadhapggcifldaaGreatDoor
namespace Go.Proofs.YtadhapggcifldaaGreatDoor
open Go.RowKit

theorem pokB_parts {s : Bool} {H L : BitVec 64} {b : Int} (hp : pokB s H L b = true) : okB s H.toInt L.toInt = true ∧ (0 ≤ b ∧ b ≤ (wd s : Int)) ∧ hasB s H L ((wd s : Int) - b).toNat s H L = true := by
  simp only [pokB, Bool.and_eq_true, decide_eq_true_eq] at hp
  exact hp
theorem wrapSub (s : Bool) (b : Int) (h : 0 ≤ b ∧ b ≤ (wd s : Int)) : IntKind.i64.wrap ((wd s : Int) - b) = ((((wd s : Int) - b).toNat : Nat) : Int) := by
  have := wd_le' s
  rw [← w64]; unfold wrap64; omega

theorem spanOf_yes (s : Bool) (H L : BitVec 64) (b : Int) (n : Nat) (hn : (n : Int) = (wd s : Int) - b) (hp : pokB s H L b = true) (w : World) :
    Calls Tryz.prog 24 #[.agg #[.bool s, .int .i64 H.toInt, .int .i64 L.toInt, .int .i64 b]] w fun e w' => e = .returned (.tuple #[.agg #[.bool s, .int .i64 H.toInt, .int .i64 L.toInt, .int .i64 n], .bool true]) ∧ Below w.heap.size w w' := by
  obtain ⟨hok, hb, hh⟩ := pokB_parts hp
  have e : ((wd s : Int) - b).toNat = n := by omega
  rw [e] at hh
  have := wd_le' s
  have hs := wrapSub s b hb
  rw [e] at hs
  exact spanOf_ok s H L b n (by omega) hok hb.1 hb.2 hs hh w

theorem spanOf_no (s : Bool) (H L : BitVec 64) (b : Int) (hp : pokB s H L b = false) (w : World) :
    Calls Tryz.prog 24 #[.agg #[.bool s, .int .i64 H.toInt, .int .i64 L.toInt, .int .i64 b]] w fun e w' => e = .returned (.tuple #[.agg #[.bool false, .int .i64 0, .int .i64 0, .int .i64 0], .bool false]) ∧ Below w.heap.size w w' := by
  cases hok : okB s H.toInt L.toInt
  · exact spanOf_bad s H L b hok w
  · by_cases h0 : b < 0
    · exact spanOf_neg s H L b hok h0 w
    · by_cases h1 : (wd s : Int) < b
      · exact spanOf_big s H L b hok (by omega) h1 w
      · have hb : 0 ≤ b ∧ b ≤ (wd s : Int) := by omega
        have hh : hasB s H L ((wd s : Int) - b).toNat s H L = false := by
          rw [pokB, hok, decide_eq_true hb] at hp
          simpa using hp
        have := wd_le' s
        exact spanOf_off s H L b _ (by omega) hok hb.1 hb.2 (wrapSub s b hb) hh w

end Go.Proofs.YtadhapggcifldaaGreatDoor
namespace Go.Proofs.YtadhapggcifldaaGreatDoor
open Go.RowKit

set_option maxHeartbeats 1000000 in
theorem iNthOf_past (s : Bool) (H L : BitVec 64) (b m : Int) (S : Bool) (X Y : BitVec 64) (n : Nat) (hn : (n : Int) = (wd s : Int) - b) (hp : pokB s H L b = true) (ha : (∀ w : World, Calls Tryz.prog 28 #[.agg #[.bool s, .int .i64 H.toInt, .int .i64 L.toInt], .int .i64 m] w fun e w' => e = .returned (.tuple #[.agg #[.bool S, .int .i64 X.toInt, .int .i64 Y.toInt], .bool false]) ∧ Below w.heap.size w w')) (w : World) :
    Calls Tryz.prog 10 #[.agg #[.bool s, .int .i64 H.toInt, .int .i64 L.toInt, .int .i64 b], .int .i64 m] w fun e w' => e = .returned (.tuple #[.agg #[.bool false, .int .i64 0, .int .i64 0], .bool false]) ∧ Below w.heap.size w w' := by
  have HS : Hid (∀ w, _) := spanOf_yes s H L b n hn hp
  have HA : Hid (∀ w : World, _) := ha
  clear hp ha hn
  go_enter Tryz.func10, Tryz.ntmps10
  go_wp2_with fail
  refine (HS.out _).mono ?_
  rintro e w1 ⟨rfl, hb1⟩
  have hz1 := hb1.size
  try simp at hz1
  have f10 : w.heap.size < w1.heap.size := by omega
  have f11 : w.heap.size + 1 < w1.heap.size := by omega
  refine olds_k (w.heap.size + 2) hb1 ?_ ?_
  · first | omega | (simp; omega) | (simp; done)
  intro hc1 hf1
  have q1 : w.heap.size + 1 < w1.heap.size + 1 := by omega
  go_wp2_with fail
  refine (HA.out _).mono ?_
  rintro e w2 ⟨rfl, hb2⟩
  have hz2 := hb2.size
  try simp at hz2
  have f2x0 : w.heap.size + 1 < w2.heap.size := by omega
  have f2x1 : w1.heap.size < w2.heap.size := by omega
  refine olds_k (w1.heap.size + 1) hb2 ?_ ?_
  · first | omega | (simp; omega) | (simp; done)
  intro hc2 hf2
  go_wp2_with fail
  refine bodyPost_ret (v := .tuple #[.agg #[.bool false, .int .i64 0, .int .i64 0], .bool false]) (by simp [results, Tryz.results10, go_sem, hc1, hc2, f11, f2x0, q1]) rfl ⟨rfl, ?_⟩
  repeat (first | with_reducible exact Below.refl _ _ | (with_reducible refine Below.drew ?_) | (with_reducible refine Below.alloc ?_ ?_ _; rotate_left; (focus (first | omega | (simp; omega) | (simp; done)))) | (with_reducible refine Below.setCell ?_ ?_ _; rotate_left; (focus (first | omega | (simp; omega) | (simp; done)))) | (with_reducible refine Below.trans ?_ (hb2.mono ?_); rotate_left; (focus (first | omega | (simp; omega) | (simp; done)))) | (with_reducible refine Below.trans ?_ (hb1.mono ?_); rotate_left; (focus (first | omega | (simp; omega) | (simp; done)))))

set_option maxHeartbeats 1000000 in
theorem iNthOf_off (s : Bool) (H L : BitVec 64) (b m : Int) (S : Bool) (X Y : BitVec 64) (n : Nat) (hn : (n : Int) = (wd s : Int) - b) (hp : pokB s H L b = true) (ha : (∀ w : World, Calls Tryz.prog 28 #[.agg #[.bool s, .int .i64 H.toInt, .int .i64 L.toInt], .int .i64 m] w fun e w' => e = .returned (.tuple #[.agg #[.bool S, .int .i64 X.toInt, .int .i64 Y.toInt], .bool true]) ∧ Below w.heap.size w w')) (hh : hasB s H L n S X Y = false) (w : World) :
    Calls Tryz.prog 10 #[.agg #[.bool s, .int .i64 H.toInt, .int .i64 L.toInt, .int .i64 b], .int .i64 m] w fun e w' => e = .returned (.tuple #[.agg #[.bool false, .int .i64 0, .int .i64 0], .bool false]) ∧ Below w.heap.size w w' := by
  have hn1 : n ≤ 128 := by have := wd_le' s; have := (pokB_parts hp).2.1; omega
  have HS : Hid (∀ w, _) := spanOf_yes s H L b n hn hp
  have HA : Hid (∀ w : World, _) := ha
  have HH : Hid (∀ w, _) := has_any s H L n hn1 S X Y
  rw [hh] at HH
  clear hp ha hn hn1 hh
  go_enter Tryz.func10, Tryz.ntmps10
  go_wp2_with fail
  refine (HS.out _).mono ?_
  rintro e w1 ⟨rfl, hb1⟩
  have hz1 := hb1.size
  try simp at hz1
  have f10 : w.heap.size < w1.heap.size := by omega
  have f11 : w.heap.size + 1 < w1.heap.size := by omega
  refine olds_k (w.heap.size + 2) hb1 ?_ ?_
  · first | omega | (simp; omega) | (simp; done)
  intro hc1 hf1
  have q1 : w.heap.size + 1 < w1.heap.size + 1 := by omega
  go_wp2_with fail
  refine (HA.out _).mono ?_
  rintro e w2 ⟨rfl, hb2⟩
  have hz2 := hb2.size
  try simp at hz2
  have f2x0 : w.heap.size + 1 < w2.heap.size := by omega
  have f2x1 : w1.heap.size < w2.heap.size := by omega
  have f2x2 : w1.heap.size < w2.heap.size + 1 := by omega
  have f2x3 : w.heap.size + 1 < w2.heap.size + 1 := by omega
  refine olds_k (w1.heap.size + 1) hb2 ?_ ?_
  · first | omega | (simp; omega) | (simp; done)
  intro hc2 hf2
  go_wp2_with fail
  refine (HH.out _).mono ?_
  rintro e w3 ⟨rfl, hb3⟩
  have hz3 := hb3.size
  try simp at hz3
  have f3x0 : w.heap.size + 1 < w3.heap.size := by omega
  have f3x1 : w2.heap.size < w3.heap.size := by omega
  refine olds_k (w2.heap.size + 1) hb3 ?_ ?_
  · first | omega | (simp; omega) | (simp; done)
  intro hc3 hf3
  go_wp2_with fail
  refine bodyPost_ret (v := .tuple #[.agg #[.bool false, .int .i64 0, .int .i64 0], .bool false]) (by simp [results, Tryz.results10, go_sem, hc1, hc2, hc3, f11, f2x0, f2x3, q1]) rfl ⟨rfl, ?_⟩
  repeat (first | with_reducible exact Below.refl _ _ | (with_reducible refine Below.drew ?_) | (with_reducible refine Below.alloc ?_ ?_ _; rotate_left; (focus (first | omega | (simp; omega) | (simp; done)))) | (with_reducible refine Below.setCell ?_ ?_ _; rotate_left; (focus (first | omega | (simp; omega) | (simp; done)))) | (with_reducible refine Below.trans ?_ (hb3.mono ?_); rotate_left; (focus (first | omega | (simp; omega) | (simp; done)))) | (with_reducible refine Below.trans ?_ (hb2.mono ?_); rotate_left; (focus (first | omega | (simp; omega) | (simp; done)))) | (with_reducible refine Below.trans ?_ (hb1.mono ?_); rotate_left; (focus (first | omega | (simp; omega) | (simp; done)))))

set_option maxHeartbeats 1000000 in
theorem iNthOf_yes (s : Bool) (H L : BitVec 64) (b m : Int) (S : Bool) (X Y : BitVec 64) (n : Nat) (hn : (n : Int) = (wd s : Int) - b) (hp : pokB s H L b = true) (ha : (∀ w : World, Calls Tryz.prog 28 #[.agg #[.bool s, .int .i64 H.toInt, .int .i64 L.toInt], .int .i64 m] w fun e w' => e = .returned (.tuple #[.agg #[.bool S, .int .i64 X.toInt, .int .i64 Y.toInt], .bool true]) ∧ Below w.heap.size w w')) (hh : hasB s H L n S X Y = true) (w : World) :
    Calls Tryz.prog 10 #[.agg #[.bool s, .int .i64 H.toInt, .int .i64 L.toInt, .int .i64 b], .int .i64 m] w fun e w' => e = .returned (.tuple #[.agg #[.bool S, .int .i64 X.toInt, .int .i64 Y.toInt], .bool true]) ∧ Below w.heap.size w w' := by
  have hn1 : n ≤ 128 := by have := wd_le' s; have := (pokB_parts hp).2.1; omega
  have HS : Hid (∀ w, _) := spanOf_yes s H L b n hn hp
  have HA : Hid (∀ w : World, _) := ha
  have HH : Hid (∀ w, _) := has_any s H L n hn1 S X Y
  rw [hh] at HH
  clear hp ha hn hn1 hh
  go_enter Tryz.func10, Tryz.ntmps10
  go_wp2_with fail
  refine (HS.out _).mono ?_
  rintro e w1 ⟨rfl, hb1⟩
  have hz1 := hb1.size
  try simp at hz1
  have f10 : w.heap.size < w1.heap.size := by omega
  have f11 : w.heap.size + 1 < w1.heap.size := by omega
  refine olds_k (w.heap.size + 2) hb1 ?_ ?_
  · first | omega | (simp; omega) | (simp; done)
  intro hc1 hf1
  have q1 : w.heap.size + 1 < w1.heap.size + 1 := by omega
  go_wp2_with fail
  refine (HA.out _).mono ?_
  rintro e w2 ⟨rfl, hb2⟩
  have hz2 := hb2.size
  try simp at hz2
  have f2x0 : w.heap.size + 1 < w2.heap.size := by omega
  have f2x1 : w1.heap.size < w2.heap.size := by omega
  have f2x2 : w1.heap.size < w2.heap.size + 1 := by omega
  have f2x3 : w.heap.size + 1 < w2.heap.size + 1 := by omega
  refine olds_k (w1.heap.size + 1) hb2 ?_ ?_
  · first | omega | (simp; omega) | (simp; done)
  intro hc2 hf2
  go_wp2_with fail
  refine (HH.out _).mono ?_
  rintro e w3 ⟨rfl, hb3⟩
  have hz3 := hb3.size
  try simp at hz3
  have f3x0 : w.heap.size + 1 < w3.heap.size := by omega
  have f3x1 : w2.heap.size < w3.heap.size := by omega
  refine olds_k (w2.heap.size + 1) hb3 ?_ ?_
  · first | omega | (simp; omega) | (simp; done)
  intro hc3 hf3
  go_wp2_with fail
  refine bodyPost_ret (v := .tuple #[.agg #[.bool S, .int .i64 X.toInt, .int .i64 Y.toInt], .bool true]) (by simp [results, Tryz.results10, go_sem, hc1, hc2, hc3, f11, f2x0, f2x3, q1]) rfl ⟨rfl, ?_⟩
  repeat (first | with_reducible exact Below.refl _ _ | (with_reducible refine Below.drew ?_) | (with_reducible refine Below.alloc ?_ ?_ _; rotate_left; (focus (first | omega | (simp; omega) | (simp; done)))) | (with_reducible refine Below.setCell ?_ ?_ _; rotate_left; (focus (first | omega | (simp; omega) | (simp; done)))) | (with_reducible refine Below.trans ?_ (hb3.mono ?_); rotate_left; (focus (first | omega | (simp; omega) | (simp; done)))) | (with_reducible refine Below.trans ?_ (hb2.mono ?_); rotate_left; (focus (first | omega | (simp; omega) | (simp; done)))) | (with_reducible refine Below.trans ?_ (hb1.mono ?_); rotate_left; (focus (first | omega | (simp; omega) | (simp; done)))))

end Go.Proofs.YtadhapggcifldaaGreatDoor
namespace Go.Proofs.YtadhapggcifldaaGreatDoor
open Go.RowKit

theorem seven_of_below {W X : World} {n b c : Nat} {v0 v1 v2 v3 u0 u1 u2 : Value} (hB : Below n W X) (hb : b < n) (hc : c < n)
    (k : W.cell? ⟨b, 0, none⟩ = some v0 ∧ W.cell? ⟨b, 1, none⟩ = some v1 ∧ W.cell? ⟨b, 2, none⟩ = some v2 ∧ W.cell? ⟨b, 3, none⟩ = some v3 ∧ W.cell? ⟨c, 0, none⟩ = some u0 ∧ W.cell? ⟨c, 1, none⟩ = some u1 ∧ W.cell? ⟨c, 2, none⟩ = some u2) :
    X.cell? ⟨b, 0, none⟩ = some v0 ∧ X.cell? ⟨b, 1, none⟩ = some v1 ∧ X.cell? ⟨b, 2, none⟩ = some v2 ∧ X.cell? ⟨b, 3, none⟩ = some v3 ∧ X.cell? ⟨c, 0, none⟩ = some u0 ∧ X.cell? ⟨c, 1, none⟩ = some u1 ∧ X.cell? ⟨c, 2, none⟩ = some u2 := by
  obtain ⟨k0, k1, k2, k3, k4, k5, k6⟩ := k
  exact ⟨(hB.cell hb).trans k0, (hB.cell hb).trans k1, (hB.cell hb).trans k2, (hB.cell hb).trans k3, (hB.cell hc).trans k4, (hB.cell hc).trans k5, (hB.cell hc).trans k6⟩

set_option maxHeartbeats 1000000 in
theorem sHasAddr_no (s : Bool) (H L : BitVec 64) (b : Int) (s' : Bool) (H' L' : BitVec 64) (hp : pokB s H L b = false) (w : World) :
    Calls Tryz.prog 31 #[.agg #[.bool s, .int .i64 H.toInt, .int .i64 L.toInt, .int .i64 b], .agg #[.bool s', .int .i64 H'.toInt, .int .i64 L'.toInt]] w fun e w' => e = .returned (.bool false) ∧ Below w.heap.size w w' := by
  have HP : Hid (∀ w, _) := sPrefixOk_any s H L b
  rw [hp] at HP
  clear hp
  go_enter Tryz.func31, Tryz.ntmps31
  go_wp2_with fail
  refine wp_region_held_drew (S := (fun x => x.cell? ⟨w.heap.size, 0, none⟩ = some (.bool s) ∧ x.cell? ⟨w.heap.size, 1, none⟩ = some (.int .i64 H.toInt) ∧ x.cell? ⟨w.heap.size, 2, none⟩ = some (.int .i64 L.toInt) ∧ x.cell? ⟨w.heap.size, 3, none⟩ = some (.int .i64 b) ∧ x.cell? ⟨w.heap.size + 1, 0, none⟩ = some (.bool s') ∧ x.cell? ⟨w.heap.size + 1, 1, none⟩ = some (.int .i64 H'.toInt) ∧ x.cell? ⟨w.heap.size + 1, 2, none⟩ = some (.int .i64 L'.toInt))) (by kernel_rfl) ?_ (fun hHeld => ?_)
  · try dsimp only
    (refine seven_of_below (W := (w.alloc (.cells #[.bool s, .int .i64 H.toInt, .int .i64 L.toInt, .int .i64 b] 27)).alloc (.cells #[.bool s', .int .i64 H'.toInt, .int .i64 L'.toInt] 25)) (n := w.heap.size + 2) ?_ (by omega) (by omega) ⟨by simp [go_sem], by simp [go_sem], by simp [go_sem], by simp [go_sem], by simp [go_sem], by simp [go_sem], by simp [go_sem]⟩; repeat (first | with_reducible exact Below.refl _ _ | (with_reducible refine Below.drew ?_) | (with_reducible refine Below.alloc ?_ ?_ _; rotate_left; (focus (first | omega | (simp; omega) | (simp; done)))) | (with_reducible refine Below.setCell ?_ ?_ _; rotate_left; (focus (first | omega | (simp; omega) | (simp; done))))))
  refine tkA 0 5 (v := ?_) rfl (by kernel_rfl) (fun _ _ _ h => h) (by rfl) ?_ (by assumption) ?_; rotate_left; · (intro w hSw; (try dsimp only at hSw); go_simp; try with_reducible rfl)
  simp only [pa]
  refine wpAnyH_ready (rs := [1]) (by kernel_rfl) (by simp) ?_
  refine AllReadyH.cons rfl (fun K hK => ?_) AllReadyH.nil
  go_simp
  go_wp2_with ((go_at_call 6; refine (HP.out _).mono ?_; rintro e w1 ⟨rfl, hb1⟩; have hz1 := hb1.size; (try simp at hz1); (first | (refine ltk (w.heap.size) (w1.heap.size) ?_ ?_; (focus omega); intro f10) | skip); (first | (refine ltk (w.heap.size + 1) (w1.heap.size) ?_ ?_; (focus omega); intro f11) | skip); (refine olds_k (w.heap.size + 2) hb1 ?_ ?_; (focus (first | omega | (simp; omega) | (simp; done))); intro hc1 hf1)))
  refine hK.out _ _ ?_ (fun hHeld => ?_)
  · try dsimp only
    (refine seven_of_below (W := (w.alloc (.cells #[.bool s, .int .i64 H.toInt, .int .i64 L.toInt, .int .i64 b] 27)).alloc (.cells #[.bool s', .int .i64 H'.toInt, .int .i64 L'.toInt] 25)) (n := w.heap.size + 2) ?_ (by omega) (by omega) ⟨by simp [go_sem], by simp [go_sem], by simp [go_sem], by simp [go_sem], by simp [go_sem], by simp [go_sem], by simp [go_sem]⟩; repeat (first | with_reducible exact Below.refl _ _ | (with_reducible refine Below.drew ?_) | (with_reducible refine Below.alloc ?_ ?_ _; rotate_left; (focus (first | omega | (simp; omega) | (simp; done)))) | (with_reducible refine Below.setCell ?_ ?_ _; rotate_left; (focus (first | omega | (simp; omega) | (simp; done)))) | (with_reducible refine Below.trans ?_ (hb1.mono ?_); rotate_left; (focus (first | omega | (simp; omega) | (simp; done))))))
  clear hK K
  refine tkA 2 7 (v := ?_) rfl (by kernel_rfl) (fun _ _ _ h => h) (by rfl) ?_ (by assumption) ?_; rotate_left; · (intro w hSw; (try dsimp only at hSw); go_simp; try with_reducible rfl)
  simp only [pa]
  refine wpAnyH_take (i := 3) (oi := ⟨some 8, _, _, _, _, _⟩) (v := undef) rfl (by kernel_rfl) (by kernel_rfl) (by kernel_rfl) (fun _ _ _ h => h) (Or.inr ⟨by rfl, rfl⟩) (by assumption) ?_
  simp only [pa]
  refine wpAnyH_ready (rs := [4]) (by kernel_rfl) (by simp) ?_
  refine AllReadyH.cons rfl (fun K hK => ?_) AllReadyH.nil
  go_simp
  refine hK.out _ _ ?_ (fun hHeld => ?_)
  · try dsimp only
    (refine seven_of_below (W := (w.alloc (.cells #[.bool s, .int .i64 H.toInt, .int .i64 L.toInt, .int .i64 b] 27)).alloc (.cells #[.bool s', .int .i64 H'.toInt, .int .i64 L'.toInt] 25)) (n := w.heap.size + 2) ?_ (by omega) (by omega) ⟨by simp [go_sem], by simp [go_sem], by simp [go_sem], by simp [go_sem], by simp [go_sem], by simp [go_sem], by simp [go_sem]⟩; repeat (first | with_reducible exact Below.refl _ _ | (with_reducible refine Below.drew ?_) | (with_reducible refine Below.alloc ?_ ?_ _; rotate_left; (focus (first | omega | (simp; omega) | (simp; done)))) | (with_reducible refine Below.setCell ?_ ?_ _; rotate_left; (focus (first | omega | (simp; omega) | (simp; done)))) | (with_reducible refine Below.trans ?_ (hb1.mono ?_); rotate_left; (focus (first | omega | (simp; omega) | (simp; done))))))
  clear hK K
  refine tkA 5 10 (v := ?_) rfl (by kernel_rfl) (fun _ _ _ h => h) (by rfl) ?_ (by assumption) ?_; rotate_left; · (intro w hSw; (try dsimp only at hSw); go_simp; try with_reducible rfl)
  simp only [pa]
  refine tkA 6 11 (v := ?_) rfl (by kernel_rfl) (fun _ _ _ h => h) (by rfl) ?_ (by assumption) ?_; rotate_left; · (intro w hSw; (try dsimp only at hSw); go_simp; try with_reducible rfl)
  simp only [pa]
  refine wpAnyH_take (i := 7) (oi := ⟨some 12, _, _, _, _, _⟩) (v := undef) rfl (by kernel_rfl) (by kernel_rfl) (by kernel_rfl) (fun _ _ _ h => h) (Or.inr ⟨by rfl, rfl⟩) (by assumption) ?_
  simp only [pa]
  refine wpAnyH_take (i := 8) (oi := ⟨some 13, _, _, _, _, _⟩) (v := undef) rfl (by kernel_rfl) (by kernel_rfl) (by kernel_rfl) (fun _ _ _ h => h) (Or.inr ⟨by rfl, rfl⟩) (by assumption) ?_
  simp only [pa]
  refine wpAnyH_take (i := 9) (oi := ⟨some 14, _, _, _, _, _⟩) (v := undef) rfl (by kernel_rfl) (by kernel_rfl) (by kernel_rfl) (fun _ _ _ h => h) (Or.inr ⟨by rfl, rfl⟩) (by assumption) ?_
  simp only [pa]
  refine wpAnyH_take (i := 10) (oi := ⟨some 15, _, _, _, _, _⟩) (v := undef) rfl (by kernel_rfl) (by kernel_rfl) (by kernel_rfl) (fun _ _ _ h => h) (Or.inr ⟨by rfl, rfl⟩) (by assumption) ?_
  simp only [pa]
  refine wpAnyH_take (i := 11) (oi := ⟨some 16, _, _, _, _, _⟩) (v := undef) rfl (by kernel_rfl) (by kernel_rfl) (by kernel_rfl) (fun _ _ _ h => h) (Or.inr ⟨by rfl, rfl⟩) (by assumption) ?_
  simp only [pa]
  refine wpAnyH_take (i := 12) (oi := ⟨some 17, _, _, _, _, _⟩) (v := undef) rfl (by kernel_rfl) (by kernel_rfl) (by kernel_rfl) (fun _ _ _ h => h) (Or.inr ⟨by rfl, rfl⟩) (by assumption) ?_
  simp only [pa]
  refine tkA 13 18 (v := ?_) rfl (by kernel_rfl) (fun _ _ _ h => h) (by rfl) ?_ (by assumption) ?_; rotate_left; · (intro w hSw; (try dsimp only at hSw); go_simp; try with_reducible rfl)
  simp only [pa]
  refine tkA 14 19 (v := ?_) rfl (by kernel_rfl) (fun _ _ _ h => h) (by rfl) ?_ (by assumption) ?_; rotate_left; · (intro w hSw; (try dsimp only at hSw); go_simp; try with_reducible rfl)
  simp only [pa]
  refine wpAnyH_take (i := 15) (oi := ⟨some 20, _, _, _, _, _⟩) (v := undef) rfl (by kernel_rfl) (by kernel_rfl) (by kernel_rfl) (fun _ _ _ h => h) (Or.inr ⟨by rfl, rfl⟩) (by assumption) ?_
  simp only [pa]
  refine wpAnyH_take (i := 16) (oi := ⟨some 21, _, _, _, _, _⟩) (v := undef) rfl (by kernel_rfl) (by kernel_rfl) (by kernel_rfl) (fun _ _ _ h => h) (Or.inr ⟨by rfl, rfl⟩) (by assumption) ?_
  simp only [pa]
  refine wpAnyH_take (i := 17) (oi := ⟨some 22, _, _, _, _, _⟩) (v := undef) rfl (by kernel_rfl) (by kernel_rfl) (by kernel_rfl) (fun _ _ _ h => h) (Or.inr ⟨by rfl, rfl⟩) (by assumption) ?_
  simp only [pa]
  refine wpAnyH_take (i := 19) (oi := ⟨some 24, _, _, _, _, _⟩) (v := undef) rfl (by kernel_rfl) (by kernel_rfl) (by kernel_rfl) (fun _ _ _ h => h) (Or.inr ⟨by rfl, rfl⟩) (by assumption) ?_
  simp only [pa]
  refine wpAnyH_take (i := 20) (oi := ⟨some 25, _, _, _, _, _⟩) (v := undef) rfl (by kernel_rfl) (by kernel_rfl) (by kernel_rfl) (fun _ _ _ h => h) (Or.inr ⟨by rfl, rfl⟩) (by assumption) ?_
  simp only [pa]
  refine wpAnyH_ready (rs := [18]) (by kernel_rfl) (by simp) ?_
  refine AllReadyH.cons rfl (fun K hK => ?_) AllReadyH.nil
  go_simp
  refine hK.out _ _ ?_ (fun hHeld => ?_)
  · try dsimp only
    (refine seven_of_below (W := (w.alloc (.cells #[.bool s, .int .i64 H.toInt, .int .i64 L.toInt, .int .i64 b] 27)).alloc (.cells #[.bool s', .int .i64 H'.toInt, .int .i64 L'.toInt] 25)) (n := w.heap.size + 2) ?_ (by omega) (by omega) ⟨by simp [go_sem], by simp [go_sem], by simp [go_sem], by simp [go_sem], by simp [go_sem], by simp [go_sem], by simp [go_sem]⟩; repeat (first | with_reducible exact Below.refl _ _ | (with_reducible refine Below.drew ?_) | (with_reducible refine Below.alloc ?_ ?_ _; rotate_left; (focus (first | omega | (simp; omega) | (simp; done)))) | (with_reducible refine Below.setCell ?_ ?_ _; rotate_left; (focus (first | omega | (simp; omega) | (simp; done)))) | (with_reducible refine Below.trans ?_ (hb1.mono ?_); rotate_left; (focus (first | omega | (simp; omega) | (simp; done))))))
  clear hK K
  refine wpAnyH_take (i := 21) (oi := ⟨some 26, _, _, _, _, _⟩) (v := undef) rfl (by kernel_rfl) (by kernel_rfl) (by kernel_rfl) (fun _ _ _ h => h) (Or.inr ⟨by rfl, rfl⟩) (by assumption) ?_
  simp only [pa]
  refine tkA 22 27 (v := ?_) rfl (by kernel_rfl) (fun _ _ _ h => h) (by rfl) ?_ (by assumption) ?_; rotate_left; · (intro w hSw; (try dsimp only at hSw); go_simp; try with_reducible rfl)
  simp only [pa]
  refine tkA 23 4 (v := ?_) rfl (by kernel_rfl) (fun _ _ _ h => h) (by rfl) ?_ (by assumption) ?_; rotate_left; · (intro w hSw; (try dsimp only at hSw); go_simp; try with_reducible rfl)
  simp only [pa]
  refine wpAnyH_done (by kernel_rfl) ?_ _
  go_wp2_with fail
  go_ret
  refine ⟨rfl, ?_⟩
  repeat (first | with_reducible exact Below.refl _ _ | (with_reducible refine Below.drew ?_) | (with_reducible refine Below.alloc ?_ ?_ _; rotate_left; (focus (first | omega | (simp; omega) | (simp; done)))) | (with_reducible refine Below.setCell ?_ ?_ _; rotate_left; (focus (first | omega | (simp; omega) | (simp; done)))) | (with_reducible refine Below.trans ?_ (hb1.mono ?_); rotate_left; (focus (first | omega | (simp; omega) | (simp; done)))))

set_option maxHeartbeats 1000000 in
theorem sHasAddr_bad (s : Bool) (H L : BitVec 64) (b : Int) (s' : Bool) (H' L' : BitVec 64) (hp : pokB s H L b = true) (hok : okB s' H'.toInt L'.toInt = false) (w : World) :
    Calls Tryz.prog 31 #[.agg #[.bool s, .int .i64 H.toInt, .int .i64 L.toInt, .int .i64 b], .agg #[.bool s', .int .i64 H'.toInt, .int .i64 L'.toInt]] w fun e w' => e = .returned (.bool false) ∧ Below w.heap.size w w' := by
  have HP : Hid (∀ w, _) := sPrefixOk_any s H L b
  rw [hp] at HP
  clear hp
  have HK : Hid (∀ w, _) := sAddrOk_any s' H'.toInt L'.toInt
  rw [hok] at HK
  clear hok
  go_enter Tryz.func31, Tryz.ntmps31
  go_wp2_with fail
  refine wp_region_held_drew (S := (fun x => x.cell? ⟨w.heap.size, 0, none⟩ = some (.bool s) ∧ x.cell? ⟨w.heap.size, 1, none⟩ = some (.int .i64 H.toInt) ∧ x.cell? ⟨w.heap.size, 2, none⟩ = some (.int .i64 L.toInt) ∧ x.cell? ⟨w.heap.size, 3, none⟩ = some (.int .i64 b) ∧ x.cell? ⟨w.heap.size + 1, 0, none⟩ = some (.bool s') ∧ x.cell? ⟨w.heap.size + 1, 1, none⟩ = some (.int .i64 H'.toInt) ∧ x.cell? ⟨w.heap.size + 1, 2, none⟩ = some (.int .i64 L'.toInt))) (by kernel_rfl) ?_ (fun hHeld => ?_)
  · try dsimp only
    (refine seven_of_below (W := (w.alloc (.cells #[.bool s, .int .i64 H.toInt, .int .i64 L.toInt, .int .i64 b] 27)).alloc (.cells #[.bool s', .int .i64 H'.toInt, .int .i64 L'.toInt] 25)) (n := w.heap.size + 2) ?_ (by omega) (by omega) ⟨by simp [go_sem], by simp [go_sem], by simp [go_sem], by simp [go_sem], by simp [go_sem], by simp [go_sem], by simp [go_sem]⟩; repeat (first | with_reducible exact Below.refl _ _ | (with_reducible refine Below.drew ?_) | (with_reducible refine Below.alloc ?_ ?_ _; rotate_left; (focus (first | omega | (simp; omega) | (simp; done)))) | (with_reducible refine Below.setCell ?_ ?_ _; rotate_left; (focus (first | omega | (simp; omega) | (simp; done))))))
  refine tkA 0 5 (v := ?_) rfl (by kernel_rfl) (fun _ _ _ h => h) (by rfl) ?_ (by assumption) ?_; rotate_left; · (intro w hSw; (try dsimp only at hSw); go_simp; try with_reducible rfl)
  simp only [pa]
  refine wpAnyH_ready (rs := [1]) (by kernel_rfl) (by simp) ?_
  refine AllReadyH.cons rfl (fun K hK => ?_) AllReadyH.nil
  go_simp
  go_wp2_with ((go_at_call 6; refine (HP.out _).mono ?_; rintro e w1 ⟨rfl, hb1⟩; have hz1 := hb1.size; (try simp at hz1); (first | (refine ltk (w.heap.size) (w1.heap.size) ?_ ?_; (focus omega); intro f10) | skip); (first | (refine ltk (w.heap.size + 1) (w1.heap.size) ?_ ?_; (focus omega); intro f11) | skip); (refine olds_k (w.heap.size + 2) hb1 ?_ ?_; (focus (first | omega | (simp; omega) | (simp; done))); intro hc1 hf1)))
  refine hK.out _ _ ?_ (fun hHeld => ?_)
  · try dsimp only
    (refine seven_of_below (W := (w.alloc (.cells #[.bool s, .int .i64 H.toInt, .int .i64 L.toInt, .int .i64 b] 27)).alloc (.cells #[.bool s', .int .i64 H'.toInt, .int .i64 L'.toInt] 25)) (n := w.heap.size + 2) ?_ (by omega) (by omega) ⟨by simp [go_sem], by simp [go_sem], by simp [go_sem], by simp [go_sem], by simp [go_sem], by simp [go_sem], by simp [go_sem]⟩; repeat (first | with_reducible exact Below.refl _ _ | (with_reducible refine Below.drew ?_) | (with_reducible refine Below.alloc ?_ ?_ _; rotate_left; (focus (first | omega | (simp; omega) | (simp; done)))) | (with_reducible refine Below.setCell ?_ ?_ _; rotate_left; (focus (first | omega | (simp; omega) | (simp; done)))) | (with_reducible refine Below.trans ?_ (hb1.mono ?_); rotate_left; (focus (first | omega | (simp; omega) | (simp; done))))))
  clear hK K
  refine tkA 2 7 (v := ?_) rfl (by kernel_rfl) (fun _ _ _ h => h) (by rfl) ?_ (by assumption) ?_; rotate_left; · (intro w hSw; (try dsimp only at hSw); go_simp; try with_reducible rfl)
  simp only [pa]
  refine tkA 3 8 (v := ?_) rfl (by kernel_rfl) (fun _ _ _ h => h) (by rfl) ?_ (by assumption) ?_; rotate_left; · (intro w hSw; (try dsimp only at hSw); go_simp; try with_reducible rfl)
  simp only [pa]
  refine wpAnyH_ready (rs := [4]) (by kernel_rfl) (by simp) ?_
  refine AllReadyH.cons rfl (fun K hK => ?_) AllReadyH.nil
  go_simp
  go_wp2_with ((go_at_call 18; refine (HK.out _).mono ?_; rintro e w2 ⟨rfl, hb2⟩; have hz2 := hb2.size; (try simp at hz2); (first | (refine ltk (w.heap.size) (w2.heap.size) ?_ ?_; (focus omega); intro f20) | skip); (first | (refine ltk (w.heap.size + 1) (w2.heap.size) ?_ ?_; (focus omega); intro f21) | skip); (refine olds_k (w.heap.size + 2) hb2 ?_ ?_; (focus (first | omega | (simp; omega) | (simp; done))); intro hc2 hf2)))
  refine hK.out _ _ ?_ (fun hHeld => ?_)
  · try dsimp only
    (refine seven_of_below (W := (w.alloc (.cells #[.bool s, .int .i64 H.toInt, .int .i64 L.toInt, .int .i64 b] 27)).alloc (.cells #[.bool s', .int .i64 H'.toInt, .int .i64 L'.toInt] 25)) (n := w.heap.size + 2) ?_ (by omega) (by omega) ⟨by simp [go_sem], by simp [go_sem], by simp [go_sem], by simp [go_sem], by simp [go_sem], by simp [go_sem], by simp [go_sem]⟩; repeat (first | with_reducible exact Below.refl _ _ | (with_reducible refine Below.drew ?_) | (with_reducible refine Below.alloc ?_ ?_ _; rotate_left; (focus (first | omega | (simp; omega) | (simp; done)))) | (with_reducible refine Below.setCell ?_ ?_ _; rotate_left; (focus (first | omega | (simp; omega) | (simp; done)))) | (with_reducible refine Below.trans ?_ (hb2.mono ?_); rotate_left; (focus (first | omega | (simp; omega) | (simp; done)))) | (with_reducible refine Below.trans ?_ (hb1.mono ?_); rotate_left; (focus (first | omega | (simp; omega) | (simp; done))))))
  clear hK K
  refine tkA 5 10 (v := ?_) rfl (by kernel_rfl) (fun _ _ _ h => h) (by rfl) ?_ (by assumption) ?_; rotate_left; · (intro w hSw; (try dsimp only at hSw); go_simp; try with_reducible rfl)
  simp only [pa]
  refine tkA 6 11 (v := ?_) rfl (by kernel_rfl) (fun _ _ _ h => h) (by rfl) ?_ (by assumption) ?_; rotate_left; · (intro w hSw; (try dsimp only at hSw); go_simp; try with_reducible rfl)
  simp only [pa]
  refine wpAnyH_take (i := 7) (oi := ⟨some 12, _, _, _, _, _⟩) (v := undef) rfl (by kernel_rfl) (by kernel_rfl) (by kernel_rfl) (fun _ _ _ h => h) (Or.inr ⟨by rfl, rfl⟩) (by assumption) ?_
  simp only [pa]
  refine wpAnyH_take (i := 8) (oi := ⟨some 13, _, _, _, _, _⟩) (v := undef) rfl (by kernel_rfl) (by kernel_rfl) (by kernel_rfl) (fun _ _ _ h => h) (Or.inr ⟨by rfl, rfl⟩) (by assumption) ?_
  simp only [pa]
  refine wpAnyH_take (i := 9) (oi := ⟨some 14, _, _, _, _, _⟩) (v := undef) rfl (by kernel_rfl) (by kernel_rfl) (by kernel_rfl) (fun _ _ _ h => h) (Or.inr ⟨by rfl, rfl⟩) (by assumption) ?_
  simp only [pa]
  refine wpAnyH_take (i := 10) (oi := ⟨some 15, _, _, _, _, _⟩) (v := undef) rfl (by kernel_rfl) (by kernel_rfl) (by kernel_rfl) (fun _ _ _ h => h) (Or.inr ⟨by rfl, rfl⟩) (by assumption) ?_
  simp only [pa]
  refine wpAnyH_take (i := 11) (oi := ⟨some 16, _, _, _, _, _⟩) (v := undef) rfl (by kernel_rfl) (by kernel_rfl) (by kernel_rfl) (fun _ _ _ h => h) (Or.inr ⟨by rfl, rfl⟩) (by assumption) ?_
  simp only [pa]
  refine wpAnyH_take (i := 12) (oi := ⟨some 17, _, _, _, _, _⟩) (v := undef) rfl (by kernel_rfl) (by kernel_rfl) (by kernel_rfl) (fun _ _ _ h => h) (Or.inr ⟨by rfl, rfl⟩) (by assumption) ?_
  simp only [pa]
  refine tkA 13 18 (v := ?_) rfl (by kernel_rfl) (fun _ _ _ h => h) (by rfl) ?_ (by assumption) ?_; rotate_left; · (intro w hSw; (try dsimp only at hSw); go_simp; try with_reducible rfl)
  simp only [pa]
  refine tkA 14 19 (v := ?_) rfl (by kernel_rfl) (fun _ _ _ h => h) (by rfl) ?_ (by assumption) ?_; rotate_left; · (intro w hSw; (try dsimp only at hSw); go_simp; try with_reducible rfl)
  simp only [pa]
  refine wpAnyH_take (i := 15) (oi := ⟨some 20, _, _, _, _, _⟩) (v := undef) rfl (by kernel_rfl) (by kernel_rfl) (by kernel_rfl) (fun _ _ _ h => h) (Or.inr ⟨by rfl, rfl⟩) (by assumption) ?_
  simp only [pa]
  refine wpAnyH_take (i := 16) (oi := ⟨some 21, _, _, _, _, _⟩) (v := undef) rfl (by kernel_rfl) (by kernel_rfl) (by kernel_rfl) (fun _ _ _ h => h) (Or.inr ⟨by rfl, rfl⟩) (by assumption) ?_
  simp only [pa]
  refine wpAnyH_take (i := 17) (oi := ⟨some 22, _, _, _, _, _⟩) (v := undef) rfl (by kernel_rfl) (by kernel_rfl) (by kernel_rfl) (fun _ _ _ h => h) (Or.inr ⟨by rfl, rfl⟩) (by assumption) ?_
  simp only [pa]
  refine wpAnyH_take (i := 19) (oi := ⟨some 24, _, _, _, _, _⟩) (v := undef) rfl (by kernel_rfl) (by kernel_rfl) (by kernel_rfl) (fun _ _ _ h => h) (Or.inr ⟨by rfl, rfl⟩) (by assumption) ?_
  simp only [pa]
  refine wpAnyH_take (i := 20) (oi := ⟨some 25, _, _, _, _, _⟩) (v := undef) rfl (by kernel_rfl) (by kernel_rfl) (by kernel_rfl) (fun _ _ _ h => h) (Or.inr ⟨by rfl, rfl⟩) (by assumption) ?_
  simp only [pa]
  refine wpAnyH_ready (rs := [18]) (by kernel_rfl) (by simp) ?_
  refine AllReadyH.cons rfl (fun K hK => ?_) AllReadyH.nil
  go_simp
  refine hK.out _ _ ?_ (fun hHeld => ?_)
  · try dsimp only
    (refine seven_of_below (W := (w.alloc (.cells #[.bool s, .int .i64 H.toInt, .int .i64 L.toInt, .int .i64 b] 27)).alloc (.cells #[.bool s', .int .i64 H'.toInt, .int .i64 L'.toInt] 25)) (n := w.heap.size + 2) ?_ (by omega) (by omega) ⟨by simp [go_sem], by simp [go_sem], by simp [go_sem], by simp [go_sem], by simp [go_sem], by simp [go_sem], by simp [go_sem]⟩; repeat (first | with_reducible exact Below.refl _ _ | (with_reducible refine Below.drew ?_) | (with_reducible refine Below.alloc ?_ ?_ _; rotate_left; (focus (first | omega | (simp; omega) | (simp; done)))) | (with_reducible refine Below.setCell ?_ ?_ _; rotate_left; (focus (first | omega | (simp; omega) | (simp; done)))) | (with_reducible refine Below.trans ?_ (hb2.mono ?_); rotate_left; (focus (first | omega | (simp; omega) | (simp; done)))) | (with_reducible refine Below.trans ?_ (hb1.mono ?_); rotate_left; (focus (first | omega | (simp; omega) | (simp; done))))))
  clear hK K
  refine wpAnyH_take (i := 21) (oi := ⟨some 26, _, _, _, _, _⟩) (v := undef) rfl (by kernel_rfl) (by kernel_rfl) (by kernel_rfl) (fun _ _ _ h => h) (Or.inr ⟨by rfl, rfl⟩) (by assumption) ?_
  simp only [pa]
  refine tkA 22 27 (v := ?_) rfl (by kernel_rfl) (fun _ _ _ h => h) (by rfl) ?_ (by assumption) ?_; rotate_left; · (intro w hSw; (try dsimp only at hSw); go_simp; try with_reducible rfl)
  simp only [pa]
  refine tkA 23 4 (v := ?_) rfl (by kernel_rfl) (fun _ _ _ h => h) (by rfl) ?_ (by assumption) ?_; rotate_left; · (intro w hSw; (try dsimp only at hSw); go_simp; try with_reducible rfl)
  simp only [pa]
  refine wpAnyH_done (by kernel_rfl) ?_ _
  go_wp2_with fail
  go_ret
  refine ⟨rfl, ?_⟩
  repeat (first | with_reducible exact Below.refl _ _ | (with_reducible refine Below.drew ?_) | (with_reducible refine Below.alloc ?_ ?_ _; rotate_left; (focus (first | omega | (simp; omega) | (simp; done)))) | (with_reducible refine Below.setCell ?_ ?_ _; rotate_left; (focus (first | omega | (simp; omega) | (simp; done)))) | (with_reducible refine Below.trans ?_ (hb2.mono ?_); rotate_left; (focus (first | omega | (simp; omega) | (simp; done)))) | (with_reducible refine Below.trans ?_ (hb1.mono ?_); rotate_left; (focus (first | omega | (simp; omega) | (simp; done)))))

end Go.Proofs.YtadhapggcifldaaGreatDoor
namespace Go.Proofs.YtadhapggcifldaaGreatDoor
open Go.RowKit

set_option maxHeartbeats 1000000 in
theorem sHasAddr_ft (H L : BitVec 64) (b : Int) (H' L' : BitVec 64) (hp : pokB false H L b = true) (hok : okB true H'.toInt L'.toInt = true) (w : World) :
    Calls Tryz.prog 31 #[.agg #[.bool false, .int .i64 H.toInt, .int .i64 L.toInt, .int .i64 b], .agg #[.bool true, .int .i64 H'.toInt, .int .i64 L'.toInt]] w fun e w' => e = .returned (.bool false) ∧ Below w.heap.size w w' := by
  have HP : Hid (∀ w, _) := sPrefixOk_any false H L b
  rw [hp] at HP
  clear hp
  have HK : Hid (∀ w, _) := sAddrOk_any true H'.toInt L'.toInt
  rw [hok] at HK
  clear hok
  go_enter Tryz.func31, Tryz.ntmps31
  go_wp2_with fail
  refine wp_region_held_drew (S := (fun x => x.cell? ⟨w.heap.size, 0, none⟩ = some (.bool false) ∧ x.cell? ⟨w.heap.size, 1, none⟩ = some (.int .i64 H.toInt) ∧ x.cell? ⟨w.heap.size, 2, none⟩ = some (.int .i64 L.toInt) ∧ x.cell? ⟨w.heap.size, 3, none⟩ = some (.int .i64 b) ∧ x.cell? ⟨w.heap.size + 1, 0, none⟩ = some (.bool true) ∧ x.cell? ⟨w.heap.size + 1, 1, none⟩ = some (.int .i64 H'.toInt) ∧ x.cell? ⟨w.heap.size + 1, 2, none⟩ = some (.int .i64 L'.toInt))) (by kernel_rfl) ?_ (fun hHeld => ?_)
  · try dsimp only
    (refine seven_of_below (W := (w.alloc (.cells #[.bool false, .int .i64 H.toInt, .int .i64 L.toInt, .int .i64 b] 27)).alloc (.cells #[.bool true, .int .i64 H'.toInt, .int .i64 L'.toInt] 25)) (n := w.heap.size + 2) ?_ (by omega) (by omega) ⟨by simp [go_sem], by simp [go_sem], by simp [go_sem], by simp [go_sem], by simp [go_sem], by simp [go_sem], by simp [go_sem]⟩; repeat (first | with_reducible exact Below.refl _ _ | (with_reducible refine Below.drew ?_) | (with_reducible refine Below.alloc ?_ ?_ _; rotate_left; (focus (first | omega | (simp; omega) | (simp; done)))) | (with_reducible refine Below.setCell ?_ ?_ _; rotate_left; (focus (first | omega | (simp; omega) | (simp; done))))))
  refine tkA 0 5 (v := ?_) rfl (by kernel_rfl) (fun _ _ _ h => h) (by rfl) ?_ (by assumption) ?_; rotate_left; · (intro w hSw; (try dsimp only at hSw); go_simp; try with_reducible rfl)
  simp only [pa]
  refine wpAnyH_ready (rs := [1]) (by kernel_rfl) (by simp) ?_
  refine AllReadyH.cons rfl (fun K hK => ?_) AllReadyH.nil
  go_simp
  go_wp2_with ((go_at_call 6; refine (HP.out _).mono ?_; rintro e w1 ⟨rfl, hb1⟩; have hz1 := hb1.size; (try simp at hz1); (first | (refine ltk (w.heap.size) (w1.heap.size) ?_ ?_; (focus omega); intro f10) | skip); (first | (refine ltk (w.heap.size + 1) (w1.heap.size) ?_ ?_; (focus omega); intro f11) | skip); (refine olds_k (w.heap.size + 2) hb1 ?_ ?_; (focus (first | omega | (simp; omega) | (simp; done))); intro hc1 hf1)))
  refine hK.out _ _ ?_ (fun hHeld => ?_)
  · try dsimp only
    (refine seven_of_below (W := (w.alloc (.cells #[.bool false, .int .i64 H.toInt, .int .i64 L.toInt, .int .i64 b] 27)).alloc (.cells #[.bool true, .int .i64 H'.toInt, .int .i64 L'.toInt] 25)) (n := w.heap.size + 2) ?_ (by omega) (by omega) ⟨by simp [go_sem], by simp [go_sem], by simp [go_sem], by simp [go_sem], by simp [go_sem], by simp [go_sem], by simp [go_sem]⟩; repeat (first | with_reducible exact Below.refl _ _ | (with_reducible refine Below.drew ?_) | (with_reducible refine Below.alloc ?_ ?_ _; rotate_left; (focus (first | omega | (simp; omega) | (simp; done)))) | (with_reducible refine Below.setCell ?_ ?_ _; rotate_left; (focus (first | omega | (simp; omega) | (simp; done)))) | (with_reducible refine Below.trans ?_ (hb1.mono ?_); rotate_left; (focus (first | omega | (simp; omega) | (simp; done))))))
  clear hK K
  refine tkA 2 7 (v := ?_) rfl (by kernel_rfl) (fun _ _ _ h => h) (by rfl) ?_ (by assumption) ?_; rotate_left; · (intro w hSw; (try dsimp only at hSw); go_simp; try with_reducible rfl)
  simp only [pa]
  refine tkA 3 8 (v := ?_) rfl (by kernel_rfl) (fun _ _ _ h => h) (by rfl) ?_ (by assumption) ?_; rotate_left; · (intro w hSw; (try dsimp only at hSw); go_simp; try with_reducible rfl)
  simp only [pa]
  refine wpAnyH_ready (rs := [4]) (by kernel_rfl) (by simp) ?_
  refine AllReadyH.cons rfl (fun K hK => ?_) AllReadyH.nil
  go_simp
  go_wp2_with ((go_at_call 18; refine (HK.out _).mono ?_; rintro e w2 ⟨rfl, hb2⟩; have hz2 := hb2.size; (try simp at hz2); (first | (refine ltk (w.heap.size) (w2.heap.size) ?_ ?_; (focus omega); intro f20) | skip); (first | (refine ltk (w.heap.size + 1) (w2.heap.size) ?_ ?_; (focus omega); intro f21) | skip); (refine olds_k (w.heap.size + 2) hb2 ?_ ?_; (focus (first | omega | (simp; omega) | (simp; done))); intro hc2 hf2)))
  refine hK.out _ _ ?_ (fun hHeld => ?_)
  · try dsimp only
    (refine seven_of_below (W := (w.alloc (.cells #[.bool false, .int .i64 H.toInt, .int .i64 L.toInt, .int .i64 b] 27)).alloc (.cells #[.bool true, .int .i64 H'.toInt, .int .i64 L'.toInt] 25)) (n := w.heap.size + 2) ?_ (by omega) (by omega) ⟨by simp [go_sem], by simp [go_sem], by simp [go_sem], by simp [go_sem], by simp [go_sem], by simp [go_sem], by simp [go_sem]⟩; repeat (first | with_reducible exact Below.refl _ _ | (with_reducible refine Below.drew ?_) | (with_reducible refine Below.alloc ?_ ?_ _; rotate_left; (focus (first | omega | (simp; omega) | (simp; done)))) | (with_reducible refine Below.setCell ?_ ?_ _; rotate_left; (focus (first | omega | (simp; omega) | (simp; done)))) | (with_reducible refine Below.trans ?_ (hb2.mono ?_); rotate_left; (focus (first | omega | (simp; omega) | (simp; done)))) | (with_reducible refine Below.trans ?_ (hb1.mono ?_); rotate_left; (focus (first | omega | (simp; omega) | (simp; done))))))
  clear hK K
  refine tkA 5 10 (v := ?_) rfl (by kernel_rfl) (fun _ _ _ h => h) (by rfl) ?_ (by assumption) ?_; rotate_left; · (intro w hSw; (try dsimp only at hSw); go_simp; try with_reducible rfl)
  simp only [pa]
  refine tkA 6 11 (v := ?_) rfl (by kernel_rfl) (fun _ _ _ h => h) (by rfl) ?_ (by assumption) ?_; rotate_left; · (intro w hSw; (try dsimp only at hSw); go_simp; try with_reducible rfl)
  simp only [pa]
  refine tkA 7 12 (v := ?_) rfl (by kernel_rfl) (fun _ _ _ h => h) (by rfl) ?_ (by assumption) ?_; rotate_left; · (intro w hSw; (try dsimp only at hSw); go_simp; try with_reducible rfl)
  simp only [pa]
  refine tkA 8 13 (v := ?_) rfl (by kernel_rfl) (fun _ _ _ h => h) (by rfl) ?_ (by assumption) ?_; rotate_left; · (intro w hSw; (try dsimp only at hSw); go_simp; try with_reducible rfl)
  simp only [pa]
  refine tkA 9 14 (v := ?_) rfl (by kernel_rfl) (fun _ _ _ h => h) (by rfl) ?_ (by assumption) ?_; rotate_left; · (intro w hSw; (try dsimp only at hSw); go_simp; try with_reducible rfl)
  simp only [pa]
  refine tkA 10 15 (v := ?_) rfl (by kernel_rfl) (fun _ _ _ h => h) (by rfl) ?_ (by assumption) ?_; rotate_left; · (intro w hSw; (try dsimp only at hSw); go_simp; try with_reducible rfl)
  simp only [pa]
  refine tkA 11 16 (v := ?_) rfl (by kernel_rfl) (fun _ _ _ h => h) (by rfl) ?_ (by assumption) ?_; rotate_left; · (intro w hSw; (try dsimp only at hSw); go_simp; try with_reducible rfl)
  simp only [pa]
  refine tkA 12 17 (v := ?_) rfl (by kernel_rfl) (fun _ _ _ h => h) (by rfl) ?_ (by assumption) ?_; rotate_left; · (intro w hSw; (try dsimp only at hSw); go_simp; try with_reducible rfl)
  simp only [pa]
  refine tkA 13 18 (v := ?_) rfl (by kernel_rfl) (fun _ _ _ h => h) (by rfl) ?_ (by assumption) ?_; rotate_left; · (intro w hSw; (try dsimp only at hSw); go_simp; try with_reducible rfl)
  simp only [pa]
  refine tkA 14 19 (v := ?_) rfl (by kernel_rfl) (fun _ _ _ h => h) (by rfl) ?_ (by assumption) ?_; rotate_left; · (intro w hSw; (try dsimp only at hSw); go_simp; try with_reducible rfl)
  simp only [pa]
  refine wpAnyH_take (i := 15) (oi := ⟨some 20, _, _, _, _, _⟩) (v := undef) rfl (by kernel_rfl) (by kernel_rfl) (by kernel_rfl) (fun _ _ _ h => h) (Or.inr ⟨by rfl, rfl⟩) (by assumption) ?_
  simp only [pa]
  refine wpAnyH_take (i := 16) (oi := ⟨some 21, _, _, _, _, _⟩) (v := undef) rfl (by kernel_rfl) (by kernel_rfl) (by kernel_rfl) (fun _ _ _ h => h) (Or.inr ⟨by rfl, rfl⟩) (by assumption) ?_
  simp only [pa]
  refine wpAnyH_take (i := 17) (oi := ⟨some 22, _, _, _, _, _⟩) (v := undef) rfl (by kernel_rfl) (by kernel_rfl) (by kernel_rfl) (fun _ _ _ h => h) (Or.inr ⟨by rfl, rfl⟩) (by assumption) ?_
  simp only [pa]
  refine wpAnyH_take (i := 19) (oi := ⟨some 24, _, _, _, _, _⟩) (v := undef) rfl (by kernel_rfl) (by kernel_rfl) (by kernel_rfl) (fun _ _ _ h => h) (Or.inr ⟨by rfl, rfl⟩) (by assumption) ?_
  simp only [pa]
  refine wpAnyH_take (i := 20) (oi := ⟨some 25, _, _, _, _, _⟩) (v := undef) rfl (by kernel_rfl) (by kernel_rfl) (by kernel_rfl) (fun _ _ _ h => h) (Or.inr ⟨by rfl, rfl⟩) (by assumption) ?_
  simp only [pa]
  refine wpAnyH_ready (rs := [18]) (by kernel_rfl) (by simp) ?_
  refine AllReadyH.cons rfl (fun K hK => ?_) AllReadyH.nil
  go_simp
  refine hK.out _ _ ?_ (fun hHeld => ?_)
  · try dsimp only
    (refine seven_of_below (W := (w.alloc (.cells #[.bool false, .int .i64 H.toInt, .int .i64 L.toInt, .int .i64 b] 27)).alloc (.cells #[.bool true, .int .i64 H'.toInt, .int .i64 L'.toInt] 25)) (n := w.heap.size + 2) ?_ (by omega) (by omega) ⟨by simp [go_sem], by simp [go_sem], by simp [go_sem], by simp [go_sem], by simp [go_sem], by simp [go_sem], by simp [go_sem]⟩; repeat (first | with_reducible exact Below.refl _ _ | (with_reducible refine Below.drew ?_) | (with_reducible refine Below.alloc ?_ ?_ _; rotate_left; (focus (first | omega | (simp; omega) | (simp; done)))) | (with_reducible refine Below.setCell ?_ ?_ _; rotate_left; (focus (first | omega | (simp; omega) | (simp; done)))) | (with_reducible refine Below.trans ?_ (hb2.mono ?_); rotate_left; (focus (first | omega | (simp; omega) | (simp; done)))) | (with_reducible refine Below.trans ?_ (hb1.mono ?_); rotate_left; (focus (first | omega | (simp; omega) | (simp; done))))))
  clear hK K
  refine wpAnyH_take (i := 21) (oi := ⟨some 26, _, _, _, _, _⟩) (v := undef) rfl (by kernel_rfl) (by kernel_rfl) (by kernel_rfl) (fun _ _ _ h => h) (Or.inr ⟨by rfl, rfl⟩) (by assumption) ?_
  simp only [pa]
  refine tkA 22 27 (v := ?_) rfl (by kernel_rfl) (fun _ _ _ h => h) (by rfl) ?_ (by assumption) ?_; rotate_left; · (intro w hSw; (try dsimp only at hSw); go_simp; try with_reducible rfl)
  simp only [pa]
  refine tkA 23 4 (v := ?_) rfl (by kernel_rfl) (fun _ _ _ h => h) (by rfl) ?_ (by assumption) ?_; rotate_left; · (intro w hSw; (try dsimp only at hSw); go_simp; try with_reducible rfl)
  simp only [pa]
  refine wpAnyH_done (by kernel_rfl) ?_ _
  go_wp2_with fail
  go_ret
  refine ⟨rfl, ?_⟩
  repeat (first | with_reducible exact Below.refl _ _ | (with_reducible refine Below.drew ?_) | (with_reducible refine Below.alloc ?_ ?_ _; rotate_left; (focus (first | omega | (simp; omega) | (simp; done)))) | (with_reducible refine Below.setCell ?_ ?_ _; rotate_left; (focus (first | omega | (simp; omega) | (simp; done)))) | (with_reducible refine Below.trans ?_ (hb2.mono ?_); rotate_left; (focus (first | omega | (simp; omega) | (simp; done)))) | (with_reducible refine Below.trans ?_ (hb1.mono ?_); rotate_left; (focus (first | omega | (simp; omega) | (simp; done)))))

set_option maxHeartbeats 1000000 in
theorem sHasAddr_tf (H L : BitVec 64) (b : Int) (H' L' : BitVec 64) (hp : pokB true H L b = true) (hok : okB false H'.toInt L'.toInt = true) (w : World) :
    Calls Tryz.prog 31 #[.agg #[.bool true, .int .i64 H.toInt, .int .i64 L.toInt, .int .i64 b], .agg #[.bool false, .int .i64 H'.toInt, .int .i64 L'.toInt]] w fun e w' => e = .returned (.bool false) ∧ Below w.heap.size w w' := by
  have HP : Hid (∀ w, _) := sPrefixOk_any true H L b
  rw [hp] at HP
  clear hp
  have HK : Hid (∀ w, _) := sAddrOk_any false H'.toInt L'.toInt
  rw [hok] at HK
  clear hok
  go_enter Tryz.func31, Tryz.ntmps31
  go_wp2_with fail
  refine wp_region_held_drew (S := (fun x => x.cell? ⟨w.heap.size, 0, none⟩ = some (.bool true) ∧ x.cell? ⟨w.heap.size, 1, none⟩ = some (.int .i64 H.toInt) ∧ x.cell? ⟨w.heap.size, 2, none⟩ = some (.int .i64 L.toInt) ∧ x.cell? ⟨w.heap.size, 3, none⟩ = some (.int .i64 b) ∧ x.cell? ⟨w.heap.size + 1, 0, none⟩ = some (.bool false) ∧ x.cell? ⟨w.heap.size + 1, 1, none⟩ = some (.int .i64 H'.toInt) ∧ x.cell? ⟨w.heap.size + 1, 2, none⟩ = some (.int .i64 L'.toInt))) (by kernel_rfl) ?_ (fun hHeld => ?_)
  · try dsimp only
    (refine seven_of_below (W := (w.alloc (.cells #[.bool true, .int .i64 H.toInt, .int .i64 L.toInt, .int .i64 b] 27)).alloc (.cells #[.bool false, .int .i64 H'.toInt, .int .i64 L'.toInt] 25)) (n := w.heap.size + 2) ?_ (by omega) (by omega) ⟨by simp [go_sem], by simp [go_sem], by simp [go_sem], by simp [go_sem], by simp [go_sem], by simp [go_sem], by simp [go_sem]⟩; repeat (first | with_reducible exact Below.refl _ _ | (with_reducible refine Below.drew ?_) | (with_reducible refine Below.alloc ?_ ?_ _; rotate_left; (focus (first | omega | (simp; omega) | (simp; done)))) | (with_reducible refine Below.setCell ?_ ?_ _; rotate_left; (focus (first | omega | (simp; omega) | (simp; done))))))
  refine tkA 0 5 (v := ?_) rfl (by kernel_rfl) (fun _ _ _ h => h) (by rfl) ?_ (by assumption) ?_; rotate_left; · (intro w hSw; (try dsimp only at hSw); go_simp; try with_reducible rfl)
  simp only [pa]
  refine wpAnyH_ready (rs := [1]) (by kernel_rfl) (by simp) ?_
  refine AllReadyH.cons rfl (fun K hK => ?_) AllReadyH.nil
  go_simp
  go_wp2_with ((go_at_call 6; refine (HP.out _).mono ?_; rintro e w1 ⟨rfl, hb1⟩; have hz1 := hb1.size; (try simp at hz1); (first | (refine ltk (w.heap.size) (w1.heap.size) ?_ ?_; (focus omega); intro f10) | skip); (first | (refine ltk (w.heap.size + 1) (w1.heap.size) ?_ ?_; (focus omega); intro f11) | skip); (refine olds_k (w.heap.size + 2) hb1 ?_ ?_; (focus (first | omega | (simp; omega) | (simp; done))); intro hc1 hf1)))
  refine hK.out _ _ ?_ (fun hHeld => ?_)
  · try dsimp only
    (refine seven_of_below (W := (w.alloc (.cells #[.bool true, .int .i64 H.toInt, .int .i64 L.toInt, .int .i64 b] 27)).alloc (.cells #[.bool false, .int .i64 H'.toInt, .int .i64 L'.toInt] 25)) (n := w.heap.size + 2) ?_ (by omega) (by omega) ⟨by simp [go_sem], by simp [go_sem], by simp [go_sem], by simp [go_sem], by simp [go_sem], by simp [go_sem], by simp [go_sem]⟩; repeat (first | with_reducible exact Below.refl _ _ | (with_reducible refine Below.drew ?_) | (with_reducible refine Below.alloc ?_ ?_ _; rotate_left; (focus (first | omega | (simp; omega) | (simp; done)))) | (with_reducible refine Below.setCell ?_ ?_ _; rotate_left; (focus (first | omega | (simp; omega) | (simp; done)))) | (with_reducible refine Below.trans ?_ (hb1.mono ?_); rotate_left; (focus (first | omega | (simp; omega) | (simp; done))))))
  clear hK K
  refine tkA 2 7 (v := ?_) rfl (by kernel_rfl) (fun _ _ _ h => h) (by rfl) ?_ (by assumption) ?_; rotate_left; · (intro w hSw; (try dsimp only at hSw); go_simp; try with_reducible rfl)
  simp only [pa]
  refine tkA 3 8 (v := ?_) rfl (by kernel_rfl) (fun _ _ _ h => h) (by rfl) ?_ (by assumption) ?_; rotate_left; · (intro w hSw; (try dsimp only at hSw); go_simp; try with_reducible rfl)
  simp only [pa]
  refine wpAnyH_ready (rs := [4]) (by kernel_rfl) (by simp) ?_
  refine AllReadyH.cons rfl (fun K hK => ?_) AllReadyH.nil
  go_simp
  go_wp2_with ((go_at_call 18; refine (HK.out _).mono ?_; rintro e w2 ⟨rfl, hb2⟩; have hz2 := hb2.size; (try simp at hz2); (first | (refine ltk (w.heap.size) (w2.heap.size) ?_ ?_; (focus omega); intro f20) | skip); (first | (refine ltk (w.heap.size + 1) (w2.heap.size) ?_ ?_; (focus omega); intro f21) | skip); (refine olds_k (w.heap.size + 2) hb2 ?_ ?_; (focus (first | omega | (simp; omega) | (simp; done))); intro hc2 hf2)))
  refine hK.out _ _ ?_ (fun hHeld => ?_)
  · try dsimp only
    (refine seven_of_below (W := (w.alloc (.cells #[.bool true, .int .i64 H.toInt, .int .i64 L.toInt, .int .i64 b] 27)).alloc (.cells #[.bool false, .int .i64 H'.toInt, .int .i64 L'.toInt] 25)) (n := w.heap.size + 2) ?_ (by omega) (by omega) ⟨by simp [go_sem], by simp [go_sem], by simp [go_sem], by simp [go_sem], by simp [go_sem], by simp [go_sem], by simp [go_sem]⟩; repeat (first | with_reducible exact Below.refl _ _ | (with_reducible refine Below.drew ?_) | (with_reducible refine Below.alloc ?_ ?_ _; rotate_left; (focus (first | omega | (simp; omega) | (simp; done)))) | (with_reducible refine Below.setCell ?_ ?_ _; rotate_left; (focus (first | omega | (simp; omega) | (simp; done)))) | (with_reducible refine Below.trans ?_ (hb2.mono ?_); rotate_left; (focus (first | omega | (simp; omega) | (simp; done)))) | (with_reducible refine Below.trans ?_ (hb1.mono ?_); rotate_left; (focus (first | omega | (simp; omega) | (simp; done))))))
  clear hK K
  refine tkA 5 10 (v := ?_) rfl (by kernel_rfl) (fun _ _ _ h => h) (by rfl) ?_ (by assumption) ?_; rotate_left; · (intro w hSw; (try dsimp only at hSw); go_simp; try with_reducible rfl)
  simp only [pa]
  refine tkA 6 11 (v := ?_) rfl (by kernel_rfl) (fun _ _ _ h => h) (by rfl) ?_ (by assumption) ?_; rotate_left; · (intro w hSw; (try dsimp only at hSw); go_simp; try with_reducible rfl)
  simp only [pa]
  refine tkA 7 12 (v := ?_) rfl (by kernel_rfl) (fun _ _ _ h => h) (by rfl) ?_ (by assumption) ?_; rotate_left; · (intro w hSw; (try dsimp only at hSw); go_simp; try with_reducible rfl)
  simp only [pa]
  refine tkA 8 13 (v := ?_) rfl (by kernel_rfl) (fun _ _ _ h => h) (by rfl) ?_ (by assumption) ?_; rotate_left; · (intro w hSw; (try dsimp only at hSw); go_simp; try with_reducible rfl)
  simp only [pa]
  refine tkA 9 14 (v := ?_) rfl (by kernel_rfl) (fun _ _ _ h => h) (by rfl) ?_ (by assumption) ?_; rotate_left; · (intro w hSw; (try dsimp only at hSw); go_simp; try with_reducible rfl)
  simp only [pa]
  refine tkA 10 15 (v := ?_) rfl (by kernel_rfl) (fun _ _ _ h => h) (by rfl) ?_ (by assumption) ?_; rotate_left; · (intro w hSw; (try dsimp only at hSw); go_simp; try with_reducible rfl)
  simp only [pa]
  refine tkA 11 16 (v := ?_) rfl (by kernel_rfl) (fun _ _ _ h => h) (by rfl) ?_ (by assumption) ?_; rotate_left; · (intro w hSw; (try dsimp only at hSw); go_simp; try with_reducible rfl)
  simp only [pa]
  refine tkA 12 17 (v := ?_) rfl (by kernel_rfl) (fun _ _ _ h => h) (by rfl) ?_ (by assumption) ?_; rotate_left; · (intro w hSw; (try dsimp only at hSw); go_simp; try with_reducible rfl)
  simp only [pa]
  refine tkA 13 18 (v := ?_) rfl (by kernel_rfl) (fun _ _ _ h => h) (by rfl) ?_ (by assumption) ?_; rotate_left; · (intro w hSw; (try dsimp only at hSw); go_simp; try with_reducible rfl)
  simp only [pa]
  refine tkA 14 19 (v := ?_) rfl (by kernel_rfl) (fun _ _ _ h => h) (by rfl) ?_ (by assumption) ?_; rotate_left; · (intro w hSw; (try dsimp only at hSw); go_simp; try with_reducible rfl)
  simp only [pa]
  refine wpAnyH_take (i := 15) (oi := ⟨some 20, _, _, _, _, _⟩) (v := undef) rfl (by kernel_rfl) (by kernel_rfl) (by kernel_rfl) (fun _ _ _ h => h) (Or.inr ⟨by rfl, rfl⟩) (by assumption) ?_
  simp only [pa]
  refine wpAnyH_take (i := 16) (oi := ⟨some 21, _, _, _, _, _⟩) (v := undef) rfl (by kernel_rfl) (by kernel_rfl) (by kernel_rfl) (fun _ _ _ h => h) (Or.inr ⟨by rfl, rfl⟩) (by assumption) ?_
  simp only [pa]
  refine wpAnyH_take (i := 17) (oi := ⟨some 22, _, _, _, _, _⟩) (v := undef) rfl (by kernel_rfl) (by kernel_rfl) (by kernel_rfl) (fun _ _ _ h => h) (Or.inr ⟨by rfl, rfl⟩) (by assumption) ?_
  simp only [pa]
  refine wpAnyH_take (i := 19) (oi := ⟨some 24, _, _, _, _, _⟩) (v := undef) rfl (by kernel_rfl) (by kernel_rfl) (by kernel_rfl) (fun _ _ _ h => h) (Or.inr ⟨by rfl, rfl⟩) (by assumption) ?_
  simp only [pa]
  refine wpAnyH_take (i := 20) (oi := ⟨some 25, _, _, _, _, _⟩) (v := undef) rfl (by kernel_rfl) (by kernel_rfl) (by kernel_rfl) (fun _ _ _ h => h) (Or.inr ⟨by rfl, rfl⟩) (by assumption) ?_
  simp only [pa]
  refine wpAnyH_ready (rs := [18]) (by kernel_rfl) (by simp) ?_
  refine AllReadyH.cons rfl (fun K hK => ?_) AllReadyH.nil
  go_simp
  refine hK.out _ _ ?_ (fun hHeld => ?_)
  · try dsimp only
    (refine seven_of_below (W := (w.alloc (.cells #[.bool true, .int .i64 H.toInt, .int .i64 L.toInt, .int .i64 b] 27)).alloc (.cells #[.bool false, .int .i64 H'.toInt, .int .i64 L'.toInt] 25)) (n := w.heap.size + 2) ?_ (by omega) (by omega) ⟨by simp [go_sem], by simp [go_sem], by simp [go_sem], by simp [go_sem], by simp [go_sem], by simp [go_sem], by simp [go_sem]⟩; repeat (first | with_reducible exact Below.refl _ _ | (with_reducible refine Below.drew ?_) | (with_reducible refine Below.alloc ?_ ?_ _; rotate_left; (focus (first | omega | (simp; omega) | (simp; done)))) | (with_reducible refine Below.setCell ?_ ?_ _; rotate_left; (focus (first | omega | (simp; omega) | (simp; done)))) | (with_reducible refine Below.trans ?_ (hb2.mono ?_); rotate_left; (focus (first | omega | (simp; omega) | (simp; done)))) | (with_reducible refine Below.trans ?_ (hb1.mono ?_); rotate_left; (focus (first | omega | (simp; omega) | (simp; done))))))
  clear hK K
  refine wpAnyH_take (i := 21) (oi := ⟨some 26, _, _, _, _, _⟩) (v := undef) rfl (by kernel_rfl) (by kernel_rfl) (by kernel_rfl) (fun _ _ _ h => h) (Or.inr ⟨by rfl, rfl⟩) (by assumption) ?_
  simp only [pa]
  refine tkA 22 27 (v := ?_) rfl (by kernel_rfl) (fun _ _ _ h => h) (by rfl) ?_ (by assumption) ?_; rotate_left; · (intro w hSw; (try dsimp only at hSw); go_simp; try with_reducible rfl)
  simp only [pa]
  refine tkA 23 4 (v := ?_) rfl (by kernel_rfl) (fun _ _ _ h => h) (by rfl) ?_ (by assumption) ?_; rotate_left; · (intro w hSw; (try dsimp only at hSw); go_simp; try with_reducible rfl)
  simp only [pa]
  refine wpAnyH_done (by kernel_rfl) ?_ _
  go_wp2_with fail
  go_ret
  refine ⟨rfl, ?_⟩
  repeat (first | with_reducible exact Below.refl _ _ | (with_reducible refine Below.drew ?_) | (with_reducible refine Below.alloc ?_ ?_ _; rotate_left; (focus (first | omega | (simp; omega) | (simp; done)))) | (with_reducible refine Below.setCell ?_ ?_ _; rotate_left; (focus (first | omega | (simp; omega) | (simp; done)))) | (with_reducible refine Below.trans ?_ (hb2.mono ?_); rotate_left; (focus (first | omega | (simp; omega) | (simp; done)))) | (with_reducible refine Below.trans ?_ (hb1.mono ?_); rotate_left; (focus (first | omega | (simp; omega) | (simp; done)))))

set_option maxHeartbeats 1000000 in
theorem sHasAddr_same (s : Bool) (H L : BitVec 64) (b : Int) (n : Nat) (H' L' : BitVec 64) (hp : pokB s H L b = true) (hok : okB s H'.toInt L'.toInt = true) (hn : n ≤ wd s) (hb : b = (wd s : Int) - (n : Int)) (w : World) :
    Calls Tryz.prog 31 #[.agg #[.bool s, .int .i64 H.toInt, .int .i64 L.toInt, .int .i64 b], .agg #[.bool s, .int .i64 H'.toInt, .int .i64 L'.toInt]] w fun e w' => e = .returned (.bool (hasB s H L n s H' L')) ∧ Below w.heap.size w w' := by
  have HM : Hid (∀ w, _) := l2Mask_any s H' L' n b hok hn hb
  have hq := hasEq s H L n s H' L'
  have HP : Hid (∀ w, _) := sPrefixOk_any s H L b
  rw [hp] at HP
  clear hp
  have HK : Hid (∀ w, _) := sAddrOk_any s H'.toInt L'.toInt
  rw [hok] at HK
  clear hok
  clear hn hb
  generalize hasB s H L n s H' L' = B at hq ⊢
  go_enter Tryz.func31, Tryz.ntmps31
  go_wp2_with fail
  go_region_held3 (fun x => x.cell? ⟨w.heap.size, 0, none⟩ = some (.bool s) ∧ x.cell? ⟨w.heap.size, 1, none⟩ = some (.int .i64 H.toInt) ∧ x.cell? ⟨w.heap.size, 2, none⟩ = some (.int .i64 L.toInt) ∧ x.cell? ⟨w.heap.size, 3, none⟩ = some (.int .i64 b) ∧ x.cell? ⟨w.heap.size + 1, 0, none⟩ = some (.bool s) ∧ x.cell? ⟨w.heap.size + 1, 1, none⟩ = some (.int .i64 H'.toInt) ∧ x.cell? ⟨w.heap.size + 1, 2, none⟩ = some (.int .i64 L'.toInt)) ((refine seven_of_below (W := (w.alloc (.cells #[.bool s, .int .i64 H.toInt, .int .i64 L.toInt, .int .i64 b] 27)).alloc (.cells #[.bool s, .int .i64 H'.toInt, .int .i64 L'.toInt] 25)) (n := w.heap.size + 2) ?_ (by omega) (by omega) ⟨by simp [go_sem], by simp [go_sem], by simp [go_sem], by simp [go_sem], by simp [go_sem], by simp [go_sem], by simp [go_sem]⟩; repeat (first | with_reducible exact Below.refl _ _ | (with_reducible refine Below.drew ?_) | (with_reducible refine Below.alloc ?_ ?_ _; rotate_left; (focus (first | omega | (simp; omega) | (simp; done)))) | (with_reducible refine Below.setCell ?_ ?_ _; rotate_left; (focus (first | omega | (simp; omega) | (simp; done)))) | (with_reducible refine Below.trans ?_ (hb3.mono ?_); rotate_left; (focus (first | omega | (simp; omega) | (simp; done)))) | (with_reducible refine Below.trans ?_ (hb2.mono ?_); rotate_left; (focus (first | omega | (simp; omega) | (simp; done)))) | (with_reducible refine Below.trans ?_ (hb1.mono ?_); rotate_left; (focus (first | omega | (simp; omega) | (simp; done))))))) (first | (go_at_call 6; refine (HP.out _).mono ?_; rintro e w1 ⟨rfl, hb1⟩; have hz1 := hb1.size; (try simp at hz1); (first | (refine ltk (w.heap.size) (w1.heap.size) ?_ ?_; (focus omega); intro f10) | skip); (first | (refine ltk (w.heap.size + 1) (w1.heap.size) ?_ ?_; (focus omega); intro f11) | skip); (refine olds_k (w.heap.size + 2) hb1 ?_ ?_; (focus (first | omega | (simp; omega) | (simp; done))); intro hc1 hf1)) | (go_at_call 18; refine (HK.out _).mono ?_; rintro e w2 ⟨rfl, hb2⟩; have hz2 := hb2.size; (try simp at hz2); (first | (refine ltk (w.heap.size) (w2.heap.size) ?_ ?_; (focus omega); intro f20) | skip); (first | (refine ltk (w.heap.size + 1) (w2.heap.size) ?_ ?_; (focus omega); intro f21) | skip); (refine olds_k (w.heap.size + 2) hb2 ?_ ?_; (focus (first | omega | (simp; omega) | (simp; done))); intro hc2 hf2)) | (go_at_call 21; refine (HM.out _).mono ?_; rintro e w3 ⟨rfl, hb3⟩; have hz3 := hb3.size; (try simp at hz3); (first | (refine ltk (w.heap.size) (w3.heap.size) ?_ ?_; (focus omega); intro f30) | skip); (first | (refine ltk (w.heap.size + 1) (w3.heap.size) ?_ ?_; (focus omega); intro f31) | skip); (refine olds_k (w.heap.size + 2) hb3 ?_ ?_; (focus (first | omega | (simp; omega) | (simp; done))); intro hc3 hf3)))
  all_goals
    go_wp2_with fail
    go_ret
    refine ⟨rfl, ?_⟩
    repeat (first | with_reducible exact Below.refl _ _ | (with_reducible refine Below.drew ?_) | (with_reducible refine Below.alloc ?_ ?_ _; rotate_left; (focus (first | omega | (simp; omega) | (simp; done)))) | (with_reducible refine Below.setCell ?_ ?_ _; rotate_left; (focus (first | omega | (simp; omega) | (simp; done)))) | (with_reducible refine Below.trans ?_ (hb3.mono ?_); rotate_left; (focus (first | omega | (simp; omega) | (simp; done)))) | (with_reducible refine Below.trans ?_ (hb2.mono ?_); rotate_left; (focus (first | omega | (simp; omega) | (simp; done)))) | (with_reducible refine Below.trans ?_ (hb1.mono ?_); rotate_left; (focus (first | omega | (simp; omega) | (simp; done)))))

end Go.Proofs.YtadhapggcifldaaGreatDoor
namespace Go.Proofs.YtadhapggcifldaaGreatDoor
open Go.RowKit

/-- whether the prefix (s, H, L, b) has the address (s', H', L') -/
def hadB (s : Bool) (H L : BitVec 64) (b : Int) (s' : Bool) (H' L' : BitVec 64) : Bool := pokB s H L b && (okB s' H'.toInt L'.toInt && hasB s H L ((wd s : Int) - b).toNat s' H' L')

theorem sHasAddr_any (s : Bool) (H L : BitVec 64) (b : Int) (s' : Bool) (H' L' : BitVec 64) (w : World) :
    Calls Tryz.prog 31 #[.agg #[.bool s, .int .i64 H.toInt, .int .i64 L.toInt, .int .i64 b], .agg #[.bool s', .int .i64 H'.toInt, .int .i64 L'.toInt]] w fun e w' => e = .returned (.bool (hadB s H L b s' H' L')) ∧ Below w.heap.size w w' := by
  cases hp : pokB s H L b
  · rw [show hadB s H L b s' H' L' = false by simp [hadB, hp]]
    exact sHasAddr_no s H L b s' H' L' hp w
  · cases hok : okB s' H'.toInt L'.toInt
    · rw [show hadB s H L b s' H' L' = false by simp [hadB, hok]]
      exact sHasAddr_bad s H L b s' H' L' hp hok w
    · rw [show hadB s H L b s' H' L' = hasB s H L ((wd s : Int) - b).toNat s' H' L' by rw [hadB, hp, hok]; rfl]
      have hb : 0 ≤ b ∧ b ≤ (wd s : Int) := by
        simp only [pokB, Bool.and_eq_true, decide_eq_true_eq] at hp
        exact hp.2.1
      by_cases e : s' = s
      · subst e
        exact sHasAddr_same s' H L b _ H' L' hp hok (by omega) (by omega) w
      · have e1 : (s' == s) = false := by simpa using e
        rw [show hasB s H L ((wd s : Int) - b).toNat s' H' L' = false by rw [hasB, e1]; rfl]
        cases s <;> cases s'
        · cases e1
        · exact sHasAddr_ft H L b H' L' hp hok w
        · exact sHasAddr_tf H L b H' L' hp hok w
        · cases e1

end Go.Proofs.YtadhapggcifldaaGreatDoor
namespace Go.Proofs.YtadhapggcifldaaGreatDoor
open Go.RowKit

set_option maxHeartbeats 1000000 in
theorem sNthOf_past (s : Bool) (H L : BitVec 64) (b m : Int) (S : Bool) (X Y : BitVec 64) (hp : pokB s H L b = true) (ha : (∀ w : World, Calls Tryz.prog 30 #[.agg #[.bool s, .int .i64 H.toInt, .int .i64 L.toInt], .int .i64 m] w fun e w' => e = .returned (.tuple #[.agg #[.bool S, .int .i64 X.toInt, .int .i64 Y.toInt], .bool false]) ∧ Below w.heap.size w w')) (w : World) :
    Calls Tryz.prog 11 #[.agg #[.bool s, .int .i64 H.toInt, .int .i64 L.toInt, .int .i64 b], .int .i64 m] w fun e w' => e = .returned (.tuple #[.agg #[.bool false, .int .i64 0, .int .i64 0], .bool false]) ∧ Below w.heap.size w w' := by
  have HA : Hid (∀ w : World, _) := ha
  clear ha
  have HP : Hid (∀ w, _) := sPrefixOk_any s H L b
  rw [hp] at HP
  clear hp
  go_enter Tryz.func11, Tryz.ntmps11
  go_wp2_with fail
  refine (HP.out _).mono ?_
  rintro e w1 ⟨rfl, hb1⟩
  have hz1 := hb1.size
  try simp at hz1
  have f10 : w.heap.size < w1.heap.size := by omega
  have f11 : w.heap.size + 1 < w1.heap.size := by omega
  refine olds_k (w.heap.size + 2) hb1 ?_ ?_
  · first | omega | (simp; omega) | (simp; done)
  intro hc1 hf1
  go_wp2_with fail
  refine (HA.out _).mono ?_
  rintro e w2 ⟨rfl, hb2⟩
  have hz2 := hb2.size
  try simp at hz2
  have f20 : w.heap.size < w2.heap.size := by omega
  have f21 : w.heap.size + 1 < w2.heap.size := by omega
  refine olds_k (w.heap.size + 2) hb2 ?_ ?_
  · first | omega | (simp; omega) | (simp; done)
  intro hc2 hf2
  go_wp2_with fail
  refine bodyPost_ret (v := .tuple #[.agg #[.bool false, .int .i64 0, .int .i64 0], .bool false]) (by simp [results, Tryz.results11, go_sem, hc1, hc2, f21]) rfl ⟨rfl, ?_⟩
  repeat (first | with_reducible exact Below.refl _ _ | (with_reducible refine Below.drew ?_) | (with_reducible refine Below.alloc ?_ ?_ _; rotate_left; (focus (first | omega | (simp; omega) | (simp; done)))) | (with_reducible refine Below.setCell ?_ ?_ _; rotate_left; (focus (first | omega | (simp; omega) | (simp; done)))) | (with_reducible refine Below.trans ?_ (hb2.mono ?_); rotate_left; (focus (first | omega | (simp; omega) | (simp; done)))) | (with_reducible refine Below.trans ?_ (hb1.mono ?_); rotate_left; (focus (first | omega | (simp; omega) | (simp; done)))))

set_option maxHeartbeats 1000000 in
theorem sNthOf_off (s : Bool) (H L : BitVec 64) (b m : Int) (S : Bool) (X Y : BitVec 64) (hp : pokB s H L b = true) (ha : (∀ w : World, Calls Tryz.prog 30 #[.agg #[.bool s, .int .i64 H.toInt, .int .i64 L.toInt], .int .i64 m] w fun e w' => e = .returned (.tuple #[.agg #[.bool S, .int .i64 X.toInt, .int .i64 Y.toInt], .bool true]) ∧ Below w.heap.size w w')) (hh : hadB s H L b S X Y = false) (w : World) :
    Calls Tryz.prog 11 #[.agg #[.bool s, .int .i64 H.toInt, .int .i64 L.toInt, .int .i64 b], .int .i64 m] w fun e w' => e = .returned (.tuple #[.agg #[.bool false, .int .i64 0, .int .i64 0], .bool false]) ∧ Below w.heap.size w w' := by
  have HA : Hid (∀ w : World, _) := ha
  have HH : Hid (∀ w, _) := sHasAddr_any s H L b S X Y
  rw [hh] at HH
  clear ha hh
  have HP : Hid (∀ w, _) := sPrefixOk_any s H L b
  rw [hp] at HP
  clear hp
  go_enter Tryz.func11, Tryz.ntmps11
  go_wp2_with fail
  refine (HP.out _).mono ?_
  rintro e w1 ⟨rfl, hb1⟩
  have hz1 := hb1.size
  try simp at hz1
  have f10 : w.heap.size < w1.heap.size := by omega
  have f11 : w.heap.size + 1 < w1.heap.size := by omega
  refine olds_k (w.heap.size + 2) hb1 ?_ ?_
  · first | omega | (simp; omega) | (simp; done)
  intro hc1 hf1
  go_wp2_with fail
  refine (HA.out _).mono ?_
  rintro e w2 ⟨rfl, hb2⟩
  have hz2 := hb2.size
  try simp at hz2
  have f20 : w.heap.size < w2.heap.size := by omega
  have f21 : w.heap.size + 1 < w2.heap.size := by omega
  refine olds_k (w.heap.size + 2) hb2 ?_ ?_
  · first | omega | (simp; omega) | (simp; done)
  intro hc2 hf2
  have q2 : w.heap.size + 1 < w2.heap.size + 1 := by omega
  have q3 : w.heap.size < w2.heap.size + 1 := by omega
  go_wp2_with fail
  refine (HH.out _).mono ?_
  rintro e w3 ⟨rfl, hb3⟩
  have hz3 := hb3.size
  try simp at hz3
  have f3x0 : w.heap.size + 1 < w3.heap.size := by omega
  have f3x1 : w2.heap.size < w3.heap.size := by omega
  refine olds_k (w2.heap.size + 1) hb3 ?_ ?_
  · first | omega | (simp; omega) | (simp; done)
  intro hc3 hf3
  go_wp2_with fail
  refine bodyPost_ret (v := .tuple #[.agg #[.bool false, .int .i64 0, .int .i64 0], .bool false]) (by simp [results, Tryz.results11, go_sem, hc1, hc2, hc3, f21, q2]) rfl ⟨rfl, ?_⟩
  repeat (first | with_reducible exact Below.refl _ _ | (with_reducible refine Below.drew ?_) | (with_reducible refine Below.alloc ?_ ?_ _; rotate_left; (focus (first | omega | (simp; omega) | (simp; done)))) | (with_reducible refine Below.setCell ?_ ?_ _; rotate_left; (focus (first | omega | (simp; omega) | (simp; done)))) | (with_reducible refine Below.trans ?_ (hb3.mono ?_); rotate_left; (focus (first | omega | (simp; omega) | (simp; done)))) | (with_reducible refine Below.trans ?_ (hb2.mono ?_); rotate_left; (focus (first | omega | (simp; omega) | (simp; done)))) | (with_reducible refine Below.trans ?_ (hb1.mono ?_); rotate_left; (focus (first | omega | (simp; omega) | (simp; done)))))

set_option maxHeartbeats 1000000 in
theorem sNthOf_yes (s : Bool) (H L : BitVec 64) (b m : Int) (S : Bool) (X Y : BitVec 64) (hp : pokB s H L b = true) (ha : (∀ w : World, Calls Tryz.prog 30 #[.agg #[.bool s, .int .i64 H.toInt, .int .i64 L.toInt], .int .i64 m] w fun e w' => e = .returned (.tuple #[.agg #[.bool S, .int .i64 X.toInt, .int .i64 Y.toInt], .bool true]) ∧ Below w.heap.size w w')) (hh : hadB s H L b S X Y = true) (w : World) :
    Calls Tryz.prog 11 #[.agg #[.bool s, .int .i64 H.toInt, .int .i64 L.toInt, .int .i64 b], .int .i64 m] w fun e w' => e = .returned (.tuple #[.agg #[.bool S, .int .i64 X.toInt, .int .i64 Y.toInt], .bool true]) ∧ Below w.heap.size w w' := by
  have HA : Hid (∀ w : World, _) := ha
  have HH : Hid (∀ w, _) := sHasAddr_any s H L b S X Y
  rw [hh] at HH
  clear ha hh
  have HP : Hid (∀ w, _) := sPrefixOk_any s H L b
  rw [hp] at HP
  clear hp
  go_enter Tryz.func11, Tryz.ntmps11
  go_wp2_with fail
  refine (HP.out _).mono ?_
  rintro e w1 ⟨rfl, hb1⟩
  have hz1 := hb1.size
  try simp at hz1
  have f10 : w.heap.size < w1.heap.size := by omega
  have f11 : w.heap.size + 1 < w1.heap.size := by omega
  refine olds_k (w.heap.size + 2) hb1 ?_ ?_
  · first | omega | (simp; omega) | (simp; done)
  intro hc1 hf1
  go_wp2_with fail
  refine (HA.out _).mono ?_
  rintro e w2 ⟨rfl, hb2⟩
  have hz2 := hb2.size
  try simp at hz2
  have f20 : w.heap.size < w2.heap.size := by omega
  have f21 : w.heap.size + 1 < w2.heap.size := by omega
  refine olds_k (w.heap.size + 2) hb2 ?_ ?_
  · first | omega | (simp; omega) | (simp; done)
  intro hc2 hf2
  have q2 : w.heap.size + 1 < w2.heap.size + 1 := by omega
  have q3 : w.heap.size < w2.heap.size + 1 := by omega
  go_wp2_with fail
  refine (HH.out _).mono ?_
  rintro e w3 ⟨rfl, hb3⟩
  have hz3 := hb3.size
  try simp at hz3
  have f3x0 : w.heap.size + 1 < w3.heap.size := by omega
  have f3x1 : w2.heap.size < w3.heap.size := by omega
  refine olds_k (w2.heap.size + 1) hb3 ?_ ?_
  · first | omega | (simp; omega) | (simp; done)
  intro hc3 hf3
  go_wp2_with fail
  refine bodyPost_ret (v := .tuple #[.agg #[.bool S, .int .i64 X.toInt, .int .i64 Y.toInt], .bool true]) (by simp [results, Tryz.results11, go_sem, hc1, hc2, hc3, f21, q2]) rfl ⟨rfl, ?_⟩
  repeat (first | with_reducible exact Below.refl _ _ | (with_reducible refine Below.drew ?_) | (with_reducible refine Below.alloc ?_ ?_ _; rotate_left; (focus (first | omega | (simp; omega) | (simp; done)))) | (with_reducible refine Below.setCell ?_ ?_ _; rotate_left; (focus (first | omega | (simp; omega) | (simp; done)))) | (with_reducible refine Below.trans ?_ (hb3.mono ?_); rotate_left; (focus (first | omega | (simp; omega) | (simp; done)))) | (with_reducible refine Below.trans ?_ (hb2.mono ?_); rotate_left; (focus (first | omega | (simp; omega) | (simp; done)))) | (with_reducible refine Below.trans ?_ (hb1.mono ?_); rotate_left; (focus (first | omega | (simp; omega) | (simp; done)))))

end Go.Proofs.YtadhapggcifldaaGreatDoor
namespace Go.Proofs.YtadhapggcifldaaGreatDoor
open Go.RowKit

set_option maxHeartbeats 1000000 in
theorem iHasAddr_any (s : Bool) (H L : BitVec 64) (b : Int) (s' : Bool) (H' L' : BitVec 64) (w : World) :
    Calls Tryz.prog 14 #[.agg #[.bool s, .int .i64 H.toInt, .int .i64 L.toInt, .int .i64 b], .agg #[.bool s', .int .i64 H'.toInt, .int .i64 L'.toInt]] w fun e w' => e = .returned (.bool (hadB s H L b s' H' L')) ∧ Below w.heap.size w w' := by
  cases hp : pokB s H L b
  · rw [show hadB s H L b s' H' L' = false by simp [hadB, hp]]
    have HS : Hid (∀ w, _) := spanOf_no s H L b hp
    clear hp
    go_enter Tryz.func14, Tryz.ntmps14
    go_wp2_with fail
    refine (HS.out _).mono ?_
    rintro e w1 ⟨rfl, hb1⟩
    have hz1 := hb1.size
    try simp at hz1
    have f10 : w.heap.size < w1.heap.size := by omega
    have f11 : w.heap.size + 1 < w1.heap.size := by omega
    refine olds_k (w.heap.size + 2) hb1 ?_ ?_
    · first | omega | (simp; omega) | (simp; done)
    intro hc1 hf1
    go_wp2_with fail
    go_ret
    refine ⟨rfl, ?_⟩
    repeat (first | with_reducible exact Below.refl _ _ | (with_reducible refine Below.drew ?_) | (with_reducible refine Below.alloc ?_ ?_ _; rotate_left; (focus (first | omega | (simp; omega) | (simp; done)))) | (with_reducible refine Below.setCell ?_ ?_ _; rotate_left; (focus (first | omega | (simp; omega) | (simp; done)))) | (with_reducible refine Below.trans ?_ (hb1.mono ?_); rotate_left; (focus (first | omega | (simp; omega) | (simp; done)))))
  obtain ⟨n, hn⟩ : ∃ n : Nat, (n : Int) = (wd s : Int) - b := ⟨((wd s : Int) - b).toNat, by have := (pokB_parts hp).2.1; omega⟩
  have hn1 : n ≤ 128 := by have := wd_le' s; have := (pokB_parts hp).2.1; omega
  have HS : Hid (∀ w, _) := spanOf_yes s H L b n hn hp
  have HK : Hid (∀ w, _) := iAddrOk_any s' H'.toInt L'.toInt
  have HH : Hid (∀ w, _) := has_any s H L n hn1 s' H' L'
  have eh : hadB s H L b s' H' L' = (okB s' H'.toInt L'.toInt && hasB s H L n s' H' L') := by rw [hadB, hp, ← hn]; rfl
  rw [eh]
  clear eh hp hn hn1
  generalize okB s' H'.toInt L'.toInt = B1 at HK ⊢
  generalize hasB s H L n s' H' L' = B2 at HH ⊢
  cases B1
  · rw [Bool.false_and]
    go_enter Tryz.func14, Tryz.ntmps14
    go_wp2_with fail
    refine (HS.out _).mono ?_
    rintro e w1 ⟨rfl, hb1⟩
    have hz1 := hb1.size
    try simp at hz1
    have f10 : w.heap.size < w1.heap.size := by omega
    have f11 : w.heap.size + 1 < w1.heap.size := by omega
    refine olds_k (w.heap.size + 2) hb1 ?_ ?_
    · first | omega | (simp; omega) | (simp; done)
    intro hc1 hf1
    go_wp2_with fail
    refine (HK.out _).mono ?_
    rintro e w2 ⟨rfl, hb2⟩
    have hz2 := hb2.size
    try simp at hz2
    have f2x0 : w.heap.size < w2.heap.size := by omega
    have f2x1 : w.heap.size + 1 < w2.heap.size := by omega
    have f2x2 : w1.heap.size < w2.heap.size := by omega
    have f2x3 : w.heap.size + 1 < w1.heap.size + 1 := by omega
    refine olds_k (w1.heap.size + 1) hb2 ?_ ?_
    · first | omega | (simp; omega) | (simp; done)
    intro hc2 hf2
    go_wp2_with fail
    go_ret
    refine ⟨rfl, ?_⟩
    repeat (first | with_reducible exact Below.refl _ _ | (with_reducible refine Below.drew ?_) | (with_reducible refine Below.alloc ?_ ?_ _; rotate_left; (focus (first | omega | (simp; omega) | (simp; done)))) | (with_reducible refine Below.setCell ?_ ?_ _; rotate_left; (focus (first | omega | (simp; omega) | (simp; done)))) | (with_reducible refine Below.trans ?_ (hb2.mono ?_); rotate_left; (focus (first | omega | (simp; omega) | (simp; done)))) | (with_reducible refine Below.trans ?_ (hb1.mono ?_); rotate_left; (focus (first | omega | (simp; omega) | (simp; done)))))
  · rw [Bool.true_and]
    go_enter Tryz.func14, Tryz.ntmps14
    go_wp2_with fail
    refine (HS.out _).mono ?_
    rintro e w1 ⟨rfl, hb1⟩
    have hz1 := hb1.size
    try simp at hz1
    have f10 : w.heap.size < w1.heap.size := by omega
    have f11 : w.heap.size + 1 < w1.heap.size := by omega
    refine olds_k (w.heap.size + 2) hb1 ?_ ?_
    · first | omega | (simp; omega) | (simp; done)
    intro hc1 hf1
    go_wp2_with fail
    refine (HK.out _).mono ?_
    rintro e w2 ⟨rfl, hb2⟩
    have hz2 := hb2.size
    try simp at hz2
    have f2x0 : w.heap.size < w2.heap.size := by omega
    have f2x1 : w.heap.size + 1 < w2.heap.size := by omega
    have f2x2 : w1.heap.size < w2.heap.size := by omega
    have f2x3 : w.heap.size + 1 < w1.heap.size + 1 := by omega
    refine olds_k (w1.heap.size + 1) hb2 ?_ ?_
    · first | omega | (simp; omega) | (simp; done)
    intro hc2 hf2
    go_wp2_with fail
    refine (HH.out _).mono ?_
    rintro e w3 ⟨rfl, hb3⟩
    have hz3 := hb3.size
    try simp at hz3
    have f30 : w.heap.size < w3.heap.size := by omega
    have f31 : w.heap.size + 1 < w3.heap.size := by omega
    refine olds_k (w.heap.size + 2) hb3 ?_ ?_
    · first | omega | (simp; omega) | (simp; done)
    intro hc3 hf3
    go_wp2_with fail
    go_ret
    refine ⟨rfl, ?_⟩
    repeat (first | with_reducible exact Below.refl _ _ | (with_reducible refine Below.drew ?_) | (with_reducible refine Below.alloc ?_ ?_ _; rotate_left; (focus (first | omega | (simp; omega) | (simp; done)))) | (with_reducible refine Below.setCell ?_ ?_ _; rotate_left; (focus (first | omega | (simp; omega) | (simp; done)))) | (with_reducible refine Below.trans ?_ (hb3.mono ?_); rotate_left; (focus (first | omega | (simp; omega) | (simp; done)))) | (with_reducible refine Below.trans ?_ (hb2.mono ?_); rotate_left; (focus (first | omega | (simp; omega) | (simp; done)))) | (with_reducible refine Below.trans ?_ (hb1.mono ?_); rotate_left; (focus (first | omega | (simp; omega) | (simp; done)))))

end Go.Proofs.YtadhapggcifldaaGreatDoor
namespace Go.Proofs.YtadhapggcifldaaGreatDoor
open Go.RowKit

set_option maxHeartbeats 1000000 in
theorem iPlaceOf_yes (s : Bool) (H L : BitVec 64) (b : Int) (s' : Bool) (H' L' : BitVec 64) (v : Int) (ok : Bool) (hh : hadB s H L b s' H' L' = true) (hg : (∀ w : World, Calls Tryz.prog 32 #[.agg #[.bool s, .int .i64 H.toInt, .int .i64 L.toInt], .agg #[.bool s', .int .i64 H'.toInt, .int .i64 L'.toInt]] w fun e w' => e = .returned (.tuple #[.int .i64 v, .bool ok]) ∧ Below w.heap.size w w')) (w : World) :
    Calls Tryz.prog 12 #[.agg #[.bool s, .int .i64 H.toInt, .int .i64 L.toInt, .int .i64 b], .agg #[.bool s', .int .i64 H'.toInt, .int .i64 L'.toInt]] w fun e w' => e = .returned (.tuple #[.int .i64 v, .bool ok]) ∧ Below w.heap.size w w' := by
  have HH : Hid (∀ w, _) := iHasAddr_any s H L b s' H' L'
  rw [hh] at HH
  have HG : Hid (∀ w : World, _) := hg
  clear hh hg
  go_enter Tryz.func12, Tryz.ntmps12
  go_wp2_with fail
  refine (HH.out _).mono ?_
  rintro e w1 ⟨rfl, hb1⟩
  have hz1 := hb1.size
  try simp at hz1
  have f10 : w.heap.size < w1.heap.size := by omega
  have f11 : w.heap.size + 1 < w1.heap.size := by omega
  refine olds_k (w.heap.size + 2) hb1 ?_ ?_
  · first | omega | (simp; omega) | (simp; done)
  intro hc1 hf1
  go_wp2_with fail
  refine (HG.out _).mono ?_
  rintro e w2 ⟨rfl, hb2⟩
  have hz2 := hb2.size
  try simp at hz2
  have f20 : w.heap.size < w2.heap.size := by omega
  have f21 : w.heap.size + 1 < w2.heap.size := by omega
  refine olds_k (w.heap.size + 2) hb2 ?_ ?_
  · first | omega | (simp; omega) | (simp; done)
  intro hc2 hf2
  go_wp2_with fail
  go_ret2
  refine ⟨rfl, ?_⟩
  repeat (first | with_reducible exact Below.refl _ _ | (with_reducible refine Below.drew ?_) | (with_reducible refine Below.alloc ?_ ?_ _; rotate_left; (focus (first | omega | (simp; omega) | (simp; done)))) | (with_reducible refine Below.setCell ?_ ?_ _; rotate_left; (focus (first | omega | (simp; omega) | (simp; done)))) | (with_reducible refine Below.trans ?_ (hb2.mono ?_); rotate_left; (focus (first | omega | (simp; omega) | (simp; done)))) | (with_reducible refine Below.trans ?_ (hb1.mono ?_); rotate_left; (focus (first | omega | (simp; omega) | (simp; done)))))

end Go.Proofs.YtadhapggcifldaaGreatDoor
namespace Go.Proofs.YtadhapggcifldaaGreatDoor
open Go.RowKit

theorem cell_set1 {w : World} {b o x o' : Nat} {u v : Value} (h : w.cell? ⟨b, o, none⟩ = some u) (hne : b ≠ x) : (w.setCell ⟨x, o', none⟩ v).cell? ⟨b, o, none⟩ = some u := by
  rw [World.cell?_of_block (heap_setCell_other _ ⟨x, o', none⟩ b _ (by simpa using hne))]; exact h
theorem frz_set1 {w : World} {b o x o' : Nat} {v : Value} (h : w.frozen? ⟨b, o, none⟩ = false) : (w.setCell ⟨x, o', none⟩ v).frozen? ⟨b, o, none⟩ = false := by
  simpa [go_sem] using h
theorem alloc_below (w : World) (o : Obj) : Below w.heap.size w (w.alloc o) := (Below.refl _ _).alloc (Nat.le_refl _) o
theorem bx3 (w : World) (t : TypeId) (v0 v1 v2 : Value) : (w.alloc (.cells #[v0, v1, v2] t)).cell? ⟨w.heap.size, 0, none⟩ = some v0 ∧ (w.alloc (.cells #[v0, v1, v2] t)).cell? ⟨w.heap.size, 1, none⟩ = some v1 ∧ (w.alloc (.cells #[v0, v1, v2] t)).cell? ⟨w.heap.size, 2, none⟩ = some v2 := ⟨by simp [go_sem], by simp [go_sem], by simp [go_sem]⟩
theorem bx4 (w : World) (t : TypeId) (v0 v1 v2 v3 : Value) : (w.alloc (.cells #[v0, v1, v2, v3] t)).cell? ⟨w.heap.size, 0, none⟩ = some v0 ∧ (w.alloc (.cells #[v0, v1, v2, v3] t)).cell? ⟨w.heap.size, 1, none⟩ = some v1 ∧ (w.alloc (.cells #[v0, v1, v2, v3] t)).cell? ⟨w.heap.size, 2, none⟩ = some v2 ∧ (w.alloc (.cells #[v0, v1, v2, v3] t)).cell? ⟨w.heap.size, 3, none⟩ = some v3 := ⟨by simp [go_sem], by simp [go_sem], by simp [go_sem], by simp [go_sem]⟩

set_option maxRecDepth 10000 in
set_option maxHeartbeats 4000000 in
theorem iPrefixOf_yes (s : Bool) (H L : BitVec 64) (b : Int) (n : Nat) (hn : n ≤ 128) (hok : okB s H.toInt L.toInt = true) (hb0 : 0 ≤ b) (hbw : b ≤ (wd s : Int)) (hsub : IntKind.i64.wrap ((wd s : Int) - b) = (n : Int)) (w : World) :
    Calls Tryz.prog 13 #[.agg #[.bool s, .int .i64 H.toInt, .int .i64 L.toInt], .int .i64 b] w fun e w' => e = .returned (.tuple #[.agg #[.bool s, .int .i64 (cH n H).toInt, .int .i64 (cL n L).toInt, .int .i64 b], .bool true]) ∧ Below w.heap.size w w' := by
  have HZ := hidP (addrOrZero_any s H.toInt L.toInt s H.toInt L.toInt (Or.inl ⟨hok, rfl, rfl, rfl⟩))
  have HW := hidP (width_any s H.toInt L.toInt)
  have HC := hidP (cleared_any s H L n hn)
  have d1 : decide (b < 0) = false := decide_eq_false (by omega)
  have d2 : ¬ (b < 0) := by omega
  have d3 : decide ((wd s : Int) < b) = false := decide_eq_false (by omega)
  have d4 : ¬ ((wd s : Int) < b) := by omega
  clear hok hb0 hbw hn
  generalize cH n H = H2 at *
  generalize cL n L = L2 at *
  generalize hW : (wd s : Int) = W at *
  clear hW
  go_enter Tryz.func13, Tryz.ntmps13
  go_wp2_with fail
  obtain ⟨bx0_W1, bx1_W1, bx2_W1⟩ := bx3 w 25 (.bool s) (.int .i64 H.toInt) (.int .i64 L.toInt)
  have bxF_W1 : ∀ o, (w.alloc (.cells #[.bool s, .int .i64 H.toInt, .int .i64 L.toInt] 25)).frozen? ⟨w.heap.size, o, none⟩ = false := fun o => by simp [go_sem]
  have bxL_W1 : w.heap.size < (w.alloc (.cells #[.bool s, .int .i64 H.toInt, .int .i64 L.toInt] 25)).heap.size := by simp
  have ab_W1 := alloc_below w (.cells #[.bool s, .int .i64 H.toInt, .int .i64 L.toInt] 25)
  have as_W1 : Hid ((w.alloc (.cells #[.bool s, .int .i64 H.toInt, .int .i64 L.toInt] 25)).heap.size = w.heap.size + 1) := hidP (by simp)
  generalize w.alloc (.cells #[.bool s, .int .i64 H.toInt, .int .i64 L.toInt] 25) = W1 at *
  have acc_W1 := hidP (ab_W1)
  have sz_W1 : Hid (w.heap.size ≤ W1.heap.size) := hidP ab_W1.size
  clear ab_W1 
  obtain ⟨re0_W2, re1_W2, re2_W2, re3_W2⟩ := bx4 W1 27 (.bool false) (.int .i64 0) (.int .i64 0) (.int .i64 0)
  have reF_W2 : ∀ o, (W1.alloc (.cells #[.bool false, .int .i64 0, .int .i64 0, .int .i64 0] 27)).frozen? ⟨W1.heap.size, o, none⟩ = false := fun o => by simp [go_sem]
  have reL_W2 : W1.heap.size < (W1.alloc (.cells #[.bool false, .int .i64 0, .int .i64 0, .int .i64 0] 27)).heap.size := by simp
  have ab_W2 := alloc_below W1 (.cells #[.bool false, .int .i64 0, .int .i64 0, .int .i64 0] 27)
  have as_W2 : Hid ((W1.alloc (.cells #[.bool false, .int .i64 0, .int .i64 0, .int .i64 0] 27)).heap.size = W1.heap.size + 1) := hidP (by simp)
  generalize W1.alloc (.cells #[.bool false, .int .i64 0, .int .i64 0, .int .i64 0] 27) = W2 at *
  have bx0_W2 := (ab_W2.cell bxL_W1).trans bx0_W1
  have bx1_W2 := (ab_W2.cell bxL_W1).trans bx1_W1
  have bx2_W2 := (ab_W2.cell bxL_W1).trans bx2_W1
  have bxF_W2 : ∀ o, W2.frozen? ⟨w.heap.size, o, none⟩ = false := fun o => (ab_W2.frozen bxL_W1).trans (bxF_W1 o)
  have bxL_W2 : w.heap.size < W2.heap.size := Nat.lt_of_lt_of_le bxL_W1 ab_W2.size
  have acc_W2 := hidP (acc_W1.out.trans (ab_W2.mono acc_W1.out.size))
  have sz_W2 : Hid (W1.heap.size ≤ W2.heap.size) := hidP ab_W2.size
  clear ab_W2 bx0_W1 bx1_W1 bx2_W1 bxF_W1 bxL_W1 acc_W1
  simp only [as_W1.out] at re0_W2 re1_W2 re2_W2 re3_W2 reF_W2 reL_W2
  refine (HZ.out _).mono ?_
  rintro e u3 ⟨rfl, hb3⟩
  have bx0_u3 := (hb3.cell bxL_W2).trans bx0_W2
  have bx1_u3 := (hb3.cell bxL_W2).trans bx1_W2
  have bx2_u3 := (hb3.cell bxL_W2).trans bx2_W2
  have bxF_u3 : ∀ o, u3.frozen? ⟨w.heap.size, o, none⟩ = false := fun o => (hb3.frozen bxL_W2).trans (bxF_W2 o)
  have bxL_u3 : w.heap.size < u3.heap.size := Nat.lt_of_lt_of_le bxL_W2 hb3.size
  have re0_u3 := (hb3.cell reL_W2).trans re0_W2
  have re1_u3 := (hb3.cell reL_W2).trans re1_W2
  have re2_u3 := (hb3.cell reL_W2).trans re2_W2
  have re3_u3 := (hb3.cell reL_W2).trans re3_W2
  have reF_u3 : ∀ o, u3.frozen? ⟨(w.heap.size + 1), o, none⟩ = false := fun o => (hb3.frozen reL_W2).trans (reF_W2 o)
  have reL_u3 : (w.heap.size + 1) < u3.heap.size := Nat.lt_of_lt_of_le reL_W2 hb3.size
  have acc_u3 := hidP (acc_W2.out.trans (hb3.mono acc_W2.out.size))
  have sz_u3 : Hid (W2.heap.size ≤ u3.heap.size) := hidP hb3.size
  clear hb3 bx0_W2 bx1_W2 bx2_W2 bxF_W2 bxL_W2 re0_W2 re1_W2 re2_W2 re3_W2 reF_W2 reL_W2 acc_W2
  go_wp2_with fail
  have bx0_W4 : (((u3.setCell ⟨w.heap.size, 0, none⟩ (.bool s)).setCell ⟨w.heap.size, 1, none⟩ (.int .i64 H.toInt)).setCell ⟨w.heap.size, 2, none⟩ (.int .i64 L.toInt)).cell? ⟨w.heap.size, 0, none⟩ = some (.bool s) := by simp [go_sem, bx0_u3]
  have bx1_W4 : (((u3.setCell ⟨w.heap.size, 0, none⟩ (.bool s)).setCell ⟨w.heap.size, 1, none⟩ (.int .i64 H.toInt)).setCell ⟨w.heap.size, 2, none⟩ (.int .i64 L.toInt)).cell? ⟨w.heap.size, 1, none⟩ = some (.int .i64 H.toInt) := by simp [go_sem, bx1_u3]
  have bx2_W4 : (((u3.setCell ⟨w.heap.size, 0, none⟩ (.bool s)).setCell ⟨w.heap.size, 1, none⟩ (.int .i64 H.toInt)).setCell ⟨w.heap.size, 2, none⟩ (.int .i64 L.toInt)).cell? ⟨w.heap.size, 2, none⟩ = some (.int .i64 L.toInt) := by simp [go_sem, bx2_u3]
  have bxF_W4 : ∀ o, (((u3.setCell ⟨w.heap.size, 0, none⟩ (.bool s)).setCell ⟨w.heap.size, 1, none⟩ (.int .i64 H.toInt)).setCell ⟨w.heap.size, 2, none⟩ (.int .i64 L.toInt)).frozen? ⟨w.heap.size, o, none⟩ = false := fun o => frz_set1 (frz_set1 (frz_set1 ((bxF_u3 o))))
  have bxL_W4 : w.heap.size < (((u3.setCell ⟨w.heap.size, 0, none⟩ (.bool s)).setCell ⟨w.heap.size, 1, none⟩ (.int .i64 H.toInt)).setCell ⟨w.heap.size, 2, none⟩ (.int .i64 L.toInt)).heap.size := by simpa using bxL_u3
  have re0_W4 : (((u3.setCell ⟨w.heap.size, 0, none⟩ (.bool s)).setCell ⟨w.heap.size, 1, none⟩ (.int .i64 H.toInt)).setCell ⟨w.heap.size, 2, none⟩ (.int .i64 L.toInt)).cell? ⟨(w.heap.size + 1), 0, none⟩ = some (.bool false) := cell_set1 (cell_set1 (cell_set1 (re0_u3) (by have := as_W1.out; have := sz_W1.out; have := as_W2.out; have := sz_W2.out; have := sz_u3.out; omega)) (by have := as_W1.out; have := sz_W1.out; have := as_W2.out; have := sz_W2.out; have := sz_u3.out; omega)) (by have := as_W1.out; have := sz_W1.out; have := as_W2.out; have := sz_W2.out; have := sz_u3.out; omega)
  have re1_W4 : (((u3.setCell ⟨w.heap.size, 0, none⟩ (.bool s)).setCell ⟨w.heap.size, 1, none⟩ (.int .i64 H.toInt)).setCell ⟨w.heap.size, 2, none⟩ (.int .i64 L.toInt)).cell? ⟨(w.heap.size + 1), 1, none⟩ = some (.int .i64 0) := cell_set1 (cell_set1 (cell_set1 (re1_u3) (by have := as_W1.out; have := sz_W1.out; have := as_W2.out; have := sz_W2.out; have := sz_u3.out; omega)) (by have := as_W1.out; have := sz_W1.out; have := as_W2.out; have := sz_W2.out; have := sz_u3.out; omega)) (by have := as_W1.out; have := sz_W1.out; have := as_W2.out; have := sz_W2.out; have := sz_u3.out; omega)
  have re2_W4 : (((u3.setCell ⟨w.heap.size, 0, none⟩ (.bool s)).setCell ⟨w.heap.size, 1, none⟩ (.int .i64 H.toInt)).setCell ⟨w.heap.size, 2, none⟩ (.int .i64 L.toInt)).cell? ⟨(w.heap.size + 1), 2, none⟩ = some (.int .i64 0) := cell_set1 (cell_set1 (cell_set1 (re2_u3) (by have := as_W1.out; have := sz_W1.out; have := as_W2.out; have := sz_W2.out; have := sz_u3.out; omega)) (by have := as_W1.out; have := sz_W1.out; have := as_W2.out; have := sz_W2.out; have := sz_u3.out; omega)) (by have := as_W1.out; have := sz_W1.out; have := as_W2.out; have := sz_W2.out; have := sz_u3.out; omega)
  have re3_W4 : (((u3.setCell ⟨w.heap.size, 0, none⟩ (.bool s)).setCell ⟨w.heap.size, 1, none⟩ (.int .i64 H.toInt)).setCell ⟨w.heap.size, 2, none⟩ (.int .i64 L.toInt)).cell? ⟨(w.heap.size + 1), 3, none⟩ = some (.int .i64 0) := cell_set1 (cell_set1 (cell_set1 (re3_u3) (by have := as_W1.out; have := sz_W1.out; have := as_W2.out; have := sz_W2.out; have := sz_u3.out; omega)) (by have := as_W1.out; have := sz_W1.out; have := as_W2.out; have := sz_W2.out; have := sz_u3.out; omega)) (by have := as_W1.out; have := sz_W1.out; have := as_W2.out; have := sz_W2.out; have := sz_u3.out; omega)
  have reF_W4 : ∀ o, (((u3.setCell ⟨w.heap.size, 0, none⟩ (.bool s)).setCell ⟨w.heap.size, 1, none⟩ (.int .i64 H.toInt)).setCell ⟨w.heap.size, 2, none⟩ (.int .i64 L.toInt)).frozen? ⟨(w.heap.size + 1), o, none⟩ = false := fun o => frz_set1 (frz_set1 (frz_set1 ((reF_u3 o))))
  have reL_W4 : (w.heap.size + 1) < (((u3.setCell ⟨w.heap.size, 0, none⟩ (.bool s)).setCell ⟨w.heap.size, 1, none⟩ (.int .i64 H.toInt)).setCell ⟨w.heap.size, 2, none⟩ (.int .i64 L.toInt)).heap.size := by simpa using reL_u3
  have acc_W4 : Hid (Below w.heap.size w (((u3.setCell ⟨w.heap.size, 0, none⟩ (.bool s)).setCell ⟨w.heap.size, 1, none⟩ (.int .i64 H.toInt)).setCell ⟨w.heap.size, 2, none⟩ (.int .i64 L.toInt))) := hidP (Below.setCell (Below.setCell (Below.setCell (acc_u3.out) (by have := as_W1.out; have := sz_W1.out; have := as_W2.out; have := sz_W2.out; have := sz_u3.out; try dsimp only; omega) _) (by have := as_W1.out; have := sz_W1.out; have := as_W2.out; have := sz_W2.out; have := sz_u3.out; try dsimp only; omega) _) (by have := as_W1.out; have := sz_W1.out; have := as_W2.out; have := sz_W2.out; have := sz_u3.out; try dsimp only; omega) _)
  have sz_W4 : Hid ((((u3.setCell ⟨w.heap.size, 0, none⟩ (.bool s)).setCell ⟨w.heap.size, 1, none⟩ (.int .i64 H.toInt)).setCell ⟨w.heap.size, 2, none⟩ (.int .i64 L.toInt)).heap.size = u3.heap.size) := hidP (by simp)
  generalize ((u3.setCell ⟨w.heap.size, 0, none⟩ (.bool s)).setCell ⟨w.heap.size, 1, none⟩ (.int .i64 H.toInt)).setCell ⟨w.heap.size, 2, none⟩ (.int .i64 L.toInt) = W4 at *
  clear bx0_u3 bx1_u3 bx2_u3 bxF_u3 bxL_u3 re0_u3 re1_u3 re2_u3 re3_u3 reF_u3 reL_u3 acc_u3
  refine (HW.out _).mono ?_
  rintro e u5 ⟨rfl, hb5⟩
  have bx0_u5 := (hb5.cell bxL_W4).trans bx0_W4
  have bx1_u5 := (hb5.cell bxL_W4).trans bx1_W4
  have bx2_u5 := (hb5.cell bxL_W4).trans bx2_W4
  have bxF_u5 : ∀ o, u5.frozen? ⟨w.heap.size, o, none⟩ = false := fun o => (hb5.frozen bxL_W4).trans (bxF_W4 o)
  have bxL_u5 : w.heap.size < u5.heap.size := Nat.lt_of_lt_of_le bxL_W4 hb5.size
  have re0_u5 := (hb5.cell reL_W4).trans re0_W4
  have re1_u5 := (hb5.cell reL_W4).trans re1_W4
  have re2_u5 := (hb5.cell reL_W4).trans re2_W4
  have re3_u5 := (hb5.cell reL_W4).trans re3_W4
  have reF_u5 : ∀ o, u5.frozen? ⟨(w.heap.size + 1), o, none⟩ = false := fun o => (hb5.frozen reL_W4).trans (reF_W4 o)
  have reL_u5 : (w.heap.size + 1) < u5.heap.size := Nat.lt_of_lt_of_le reL_W4 hb5.size
  have acc_u5 := hidP (acc_W4.out.trans (hb5.mono acc_W4.out.size))
  have sz_u5 : Hid (W4.heap.size ≤ u5.heap.size) := hidP hb5.size
  clear hb5 bx0_W4 bx1_W4 bx2_W4 bxF_W4 bxL_W4 re0_W4 re1_W4 re2_W4 re3_W4 reF_W4 reL_W4 acc_W4
  go_wp2_with fail
  have hBW : w.heap.size + 1 ≤ u5.heap.size := (by have := as_W1.out; have := sz_W1.out; have := as_W2.out; have := sz_W2.out; have := sz_u3.out; have := sz_W4.out; have := sz_u5.out; omega)
  have l0 : w.heap.size < w.heap.size + 1 := by omega
  have HSx : Hid (∀ x, Below (w.heap.size + 1) u5 x → (x.cell? ⟨w.heap.size, 0, none⟩ = some (.bool s) ∧ x.cell? ⟨w.heap.size, 1, none⟩ = some (.int .i64 H.toInt) ∧ x.cell? ⟨w.heap.size, 2, none⟩ = some (.int .i64 L.toInt) ∧ Below (w.heap.size + 1) u5 x)) := hidP fun x h =>
    ⟨(h.cell l0).trans bx0_u5, (h.cell l0).trans bx1_u5, (h.cell l0).trans bx2_u5, h⟩
  refine wp_region_held_drew (S := (fun x => x.cell? ⟨w.heap.size, 0, none⟩ = some (.bool s) ∧ x.cell? ⟨w.heap.size, 1, none⟩ = some (.int .i64 H.toInt) ∧ x.cell? ⟨w.heap.size, 2, none⟩ = some (.int .i64 L.toInt) ∧ Below (w.heap.size + 1) u5 x)) (by kernel_rfl) ?_ (fun hHeld => ?_)
  · try dsimp only
    exact HSx.out _ (Below.refl _ _).drew
  refine tkA 0 17 (v := ?_) rfl (by kernel_rfl) (fun _ _ _ h => h) (by rfl) ?_ (by assumption) ?_; rotate_left; · (intro w hSw; (try dsimp only at hSw); go_simp; try with_reducible rfl)
  simp only [pa]
  refine tkA 1 18 (v := ?_) rfl (by kernel_rfl) (fun _ _ _ h => h) (by rfl) ?_ (by assumption) ?_; rotate_left; · (intro w hSw; (try dsimp only at hSw); go_simp; try with_reducible rfl)
  simp only [pa]
  refine tkA 3 20 (v := ?_) rfl (by kernel_rfl) (fun _ _ _ h => h) (by rfl) ?_ (by assumption) ?_; rotate_left; · (intro w hSw; (try dsimp only at hSw); go_simp; try with_reducible rfl)
  simp only [pa]
  refine tkA 6 23 (v := ?_) rfl (by kernel_rfl) (fun _ _ _ h => h) (by rfl) ?_ (by assumption) ?_; rotate_left; · (intro w hSw; (try dsimp only at hSw); go_simp; try with_reducible rfl)
  simp only [pa]
  refine wpAnyH_ready (rs := [2]) (by kernel_rfl) (by simp) ?_
  refine AllReadyH.cons rfl (fun K hK => ?_) AllReadyH.nil
  go_simp
  go_wp2_with (first | (go_at_call 34; refine (HW.out _).mono ?_; rintro e w6 ⟨rfl, hb6⟩; have b6 := (hHeld.2.2.2).trans (hb6.mono (Nat.le_trans hBW (hHeld.2.2.2).size))))
  refine hK.out _ _ ?_ (fun hHeld => ?_)
  · try dsimp only
    exact HSx.out _ b6
  clear hK K
  refine tkA 4 21 (v := ?_) rfl (by kernel_rfl) (fun _ _ _ h => h) (by rfl) ?_ (by assumption) ?_; rotate_left; · (intro w hSw; (try dsimp only at hSw); go_simp; try with_reducible rfl)
  simp only [pa]
  refine wpAnyH_ready (rs := [5]) (by kernel_rfl) (by simp) ?_
  refine AllReadyH.cons rfl (fun K hK => ?_) AllReadyH.nil
  go_simp
  go_wp2_with (first | (go_at_call 35; refine (HC.out _).mono ?_; rintro e w7 ⟨rfl, hb7⟩; have b7 := (hHeld.2.2.2).trans (hb7.mono (Nat.le_trans hBW (hHeld.2.2.2).size))))
  refine hK.out _ _ ?_ (fun hHeld => ?_)
  · try dsimp only
    exact HSx.out _ b7
  clear hK K
  refine tkA 7 24 (v := ?_) rfl (by kernel_rfl) (fun _ _ _ h => h) (by rfl) ?_ (by assumption) ?_; rotate_left; · (intro w hSw; (try dsimp only at hSw); go_simp; try with_reducible rfl)
  simp only [pa]
  have r0 := (hb7.cell (Nat.lt_of_lt_of_le (show w.heap.size + 1 < u5.heap.size from reL_u5) hb6.size)).trans ((hb6.cell (show w.heap.size + 1 < u5.heap.size from reL_u5)).trans re0_u5)
  have r1 := (hb7.cell (Nat.lt_of_lt_of_le (show w.heap.size + 1 < u5.heap.size from reL_u5) hb6.size)).trans ((hb6.cell (show w.heap.size + 1 < u5.heap.size from reL_u5)).trans re1_u5)
  have r2 := (hb7.cell (Nat.lt_of_lt_of_le (show w.heap.size + 1 < u5.heap.size from reL_u5) hb6.size)).trans ((hb6.cell (show w.heap.size + 1 < u5.heap.size from reL_u5)).trans re2_u5)
  have r3 := (hb7.cell (Nat.lt_of_lt_of_le (show w.heap.size + 1 < u5.heap.size from reL_u5) hb6.size)).trans ((hb6.cell (show w.heap.size + 1 < u5.heap.size from reL_u5)).trans re3_u5)
  have rF : ∀ o, w7.frozen? ⟨w.heap.size + 1, o, none⟩ = false := fun o => (hb7.frozen (Nat.lt_of_lt_of_le (show w.heap.size + 1 < u5.heap.size from reL_u5) hb6.size)).trans ((hb6.frozen (show w.heap.size + 1 < u5.heap.size from reL_u5)).trans (reF_u5 o))
  refine wpAnyH_ready (rs := [8]) (by kernel_rfl) (by simp) ?_
  refine AllReadyH.cons rfl (fun K hK => ?_) AllReadyH.nil
  go_simp
  refine hK.out _ _ ?_ (fun hHeld => ?_)
  · try dsimp only
    refine HSx.out _ ?_
    repeat (with_reducible refine Below.setCell ?_ ?_ _; rotate_left; (focus (first | (simp; done) | (simp; omega) | omega)))
    exact b7
  clear hK K
  refine tkA 9 5 (v := ?_) rfl (by kernel_rfl) (fun _ _ _ h => h) (by rfl) ?_ (by assumption) ?_; rotate_left; · (intro w hSw; (try dsimp only at hSw); go_simp; try with_reducible rfl)
  simp only [Act.put, List.setIfInBounds_toArray]
  have HE := hidP (hHeld.2.2.2)
  refine wpAnyH_done (by kernel_rfl) ?_ _
  clear hHeld
  have A7 := hidP ((acc_u5.out.trans (Below.mono (Below.drew (Below.refl _ _)) acc_u5.out.size)).trans ((hb6.mono (show w.heap.size ≤ u5.heap.size from acc_u5.out.size)).trans (hb7.mono (Nat.le_trans (show w.heap.size ≤ u5.heap.size from acc_u5.out.size) hb6.size))))
  go_wp2_with fail
  refine bodyPost_ret (v := .tuple #[.agg #[.bool s, .int .i64 H2.toInt, .int .i64 L2.toInt, .int .i64 b], .bool true]) (by simp [results, Tryz.results13, go_sem, r0, r1, r2, r3]) rfl ⟨rfl, ?_⟩
  repeat (with_reducible refine Below.setCell ?_ ?_ _; rotate_left; (focus (first | (simp; done) | (simp; omega) | omega)))
  exact A7.out

end Go.Proofs.YtadhapggcifldaaGreatDoor
namespace Go.Proofs.YtadhapggcifldaaGreatDoor
open Go.RowKit

set_option maxHeartbeats 400000 in
theorem tz16 (w : World) (ht : w.cell? ⟨5, 15, none⟩ = some (.int .u8 4)) :
    Calls Tryz.prog 93 #[.int .u64 16] w fun e w' => e = .returned (.int .i64 4) ∧ w' = w := by
  have e1 : bits .and .u64 16 (IntKind.u64.wrap (-16)) = 16 := by decide +kernel
  go_enter Tryz.func93, Tryz.ntmps93
  go_wp2
  go_ret
  exact ⟨rfl, rfl⟩

set_option maxHeartbeats 400000 in
theorem pow16 (w : World) :
    Calls Tryz.prog 92 #[.int .i64 16] w fun e w' => e = .returned (.bool true) ∧ w' = w := by
  go_enter Tryz.func92, Tryz.ntmps92
  go_wp2
  go_ret
  exact ⟨rfl, rfl⟩

/-- The sign of a digit. -/
def hexb (k : Nat) : UInt8 := if k < 10 then (48 + k).toUInt8 else (87 + k).toUInt8
/-- The same, as a cell holds it. -/
def dg (k : Int) : Int := ((hexb k.toNat).toNat : Int)
def z65 : Array Value := Array.replicate 65 (.int .u8 0)

theorem zv65 (w : World) : (zeroValue 125).run Tryz.prog w = .ok (.agg z65) w := by kernel_rfl

theorem below16 (k : Int) (h0 : 0 ≤ k) (h1 : k < 16) : k = 0 ∨ k = 1 ∨ k = 2 ∨ k = 3 ∨ k = 4 ∨ k = 5 ∨ k = 6 ∨ k = 7 ∨ k = 8 ∨ k = 9 ∨ k = 10 ∨ k = 11 ∨ k = 12 ∨ k = 13 ∨ k = 14 ∨ k = 15 := by omega

theorem ix36 (k : Int) (h0 : 0 ≤ k) (h1 : k < 16) (w : World) : (Instr.index 9 (.string ⟨#[48, 49, 50, 51, 52, 53, 54, 55, 56, 57, 97, 98, 99, 100, 101, 102, 103, 104, 105, 106, 107, 108, 109, 110, 111, 112, 113, 114, 115, 116, 117, 118, 119, 120, 121, 122]⟩) (.int .u64 k)).run Tryz.prog w = .ok (.int .u8 (dg k)) w := by
  rcases below16 k h0 h1 with rfl | rfl | rfl | rfl | rfl | rfl | rfl | rfl | rfl | rfl | rfl | rfl | rfl | rfl | rfl | rfl <;> kernel_rfl

theorem and15 (u : Int) (h0 : 0 ≤ u) (h1 : u < 65536) : bits .and .u64 u 15 = u % 16 := by
  obtain ⟨n, rfl⟩ := Int.eq_ofNat_of_zero_le h0
  rw [u64_and _ _ (by omega) (by omega) (by omega) (by omega)]
  have : (15 : Int).toNat = 2 ^ 4 - 1 := by decide
  rw [this, Int.toNat_natCast, Nat.and_two_pow_sub_one_eq_mod]
  omega

/-- The new block behind no, one, two, three digits. -/
def r0 : Array Value := z65
def r1 (u : Int) : Array Value := r0.setIfInBounds 64 (.int .u8 (dg (u % 16)))
def r2 (u : Int) : Array Value := (r1 u).setIfInBounds 63 (.int .u8 (dg (u / 16 % 16)))
def r3 (u : Int) : Array Value := (r2 u).setIfInBounds 62 (.int .u8 (dg (u / 16 / 16 % 16)))
/-- The digits of a number below 65536, the weightiest first: so many as it has. -/
def l0 (u : Int) : List UInt8 := [hexb u.toNat]
def l1 (u : Int) : List UInt8 := [hexb (u / 16).toNat, hexb (u % 16).toNat]
def l2 (u : Int) : List UInt8 := [hexb (u / 16 / 16).toNat, hexb (u / 16 % 16).toNat, hexb (u % 16).toNat]
def l3 (u : Int) : List UInt8 := [hexb (u / 16 / 16 / 16).toNat, hexb (u / 16 / 16 % 16).toNat, hexb (u / 16 % 16).toNat, hexb (u % 16).toNat]
def hexs (u : Int) : List UInt8 := if u < 16 then l0 u else if u < 256 then l1 u else if u < 4096 then l2 u else l3 u

theorem cvt (w : World) (arr : Array Value) (p n : Nat) (l : List UInt8) (hc : ∀ j (hj : j < l.length), arr[p + j]? = some (.int .u8 (l[j].toNat : Int))) (hn : n = l.length) :
    (convert 22 9 (.slice (some ⟨w.heap.size, p, none⟩) n n)).run Tryz.prog (w.alloc (.cells arr 125)) = .ok (.string ⟨l.toArray⟩) (w.alloc (.cells arr 125)) := by
  subst hn
  exact run_convert_bytes_back (P := Tryz.prog) (w.alloc (.cells arr 125)) 22 9 5 ⟨w.heap.size, p, none⟩ l.length l Tryz.underlying22 Tryz.underlying5 Tryz.underlying9 (fun j hj => by
    rw [Lib.add_plain, World.cell?_alloc_new]; exact hc j hj)

theorem c0 (u : Int) : ∀ j (hj : j < (l0 u).length), (r0.setIfInBounds 64 (.int .u8 (dg u)))[64 + j]? = some (.int .u8 ((l0 u)[j].toNat : Int)) := fun j hj => by
  obtain rfl : j = 0 := by simp [l0] at hj; omega
  simp [l0, dg, r0, z65]
theorem c1 (u : Int) : ∀ j (hj : j < (l1 u).length), ((r1 u).setIfInBounds 63 (.int .u8 (dg (u / 16))))[63 + j]? = some (.int .u8 ((l1 u)[j].toNat : Int)) := fun j hj => by
  have h : j = 0 ∨ j = 1 := by simp [l1] at hj; omega
  rcases h with rfl | rfl <;> simp [l1, dg, r1, r0, z65]
theorem c2 (u : Int) : ∀ j (hj : j < (l2 u).length), ((r2 u).setIfInBounds 62 (.int .u8 (dg (u / 16 / 16))))[62 + j]? = some (.int .u8 ((l2 u)[j].toNat : Int)) := fun j hj => by
  have h : j = 0 ∨ j = 1 ∨ j = 2 := by simp [l2] at hj; omega
  rcases h with rfl | rfl | rfl <;> simp [l2, dg, r2, r1, r0, z65]
theorem c3 (u : Int) : ∀ j (hj : j < (l3 u).length), ((r3 u).setIfInBounds 61 (.int .u8 (dg (u / 16 / 16 / 16))))[61 + j]? = some (.int .u8 ((l3 u)[j].toNat : Int)) := fun j hj => by
  have h : j = 0 ∨ j = 1 ∨ j = 2 ∨ j = 3 := by simp [l3] at hj; omega
  rcases h with rfl | rfl | rfl | rfl <;> simp [l3, dg, r3, r2, r1, r0, z65]

theorem ret_str {v : Value} {a b : List UInt8} (h : a = b) : Ending.returned (.tuple #[v, .string ⟨a.toArray⟩]) = .returned (.tuple #[v, .string ⟨b.toArray⟩]) := by rw [h]

set_option maxRecDepth 100000 in
set_option maxHeartbeats 2000000 in
theorem fb16 (u : Int) (h0 : 0 ≤ u) (h1 : u < 65536) (w : World) (ht : ∀ o1, (w.alloc o1).cell? ⟨5, 15, none⟩ = some (.int .u8 4)) :
    Calls Tryz.prog 76 #[.slice none 0 0, .int .u64 u, .int .i64 16, .bool false, .bool false] w fun e w' => e = .returned (.tuple #[.slice none 0 0, .string ⟨(hexs u).toArray⟩]) ∧ Below w.heap.size w w' := by
  have zv := zv65
  have n0 := and15 u h0 h1
  have n1 := and15 (u / 16) (by omega) (by omega)
  have n2 := and15 (u / 16 / 16) (by omega) (by omega)
  have i0 := ix36 (u % 16) (by omega) (by omega)
  have i1 := ix36 (u / 16 % 16) (by omega) (by omega)
  have i2 := ix36 (u / 16 / 16 % 16) (by omega) (by omega)
  go_enter Tryz.func76, Tryz.ntmps76
  go_wp2_with (first | (go_at_call 92; refine (pow16 _).mono ?_; rintro e w' ⟨rfl, rfl⟩) | (go_at_call 93; refine (tz16 _ (ht _)).mono ?_; rintro e w' ⟨rfl, rfl⟩))
  go_loopw [1, 13] (fun t1 t13 x => (t1 = .int .u64 u ∧ t13 = .int .i64 65 ∧ x = w.alloc (.cells r0 125))
    ∨ (16 ≤ u ∧ t1 = .int .u64 (u / 16) ∧ t13 = .int .i64 64 ∧ x = w.alloc (.cells (r1 u) 125))
    ∨ (256 ≤ u ∧ t1 = .int .u64 (u / 16 / 16) ∧ t13 = .int .i64 63 ∧ x = w.alloc (.cells (r2 u) 125))
    ∨ (4096 ≤ u ∧ t1 = .int .u64 (u / 16 / 16 / 16) ∧ t13 = .int .i64 62 ∧ x = w.alloc (.cells (r3 u) 125))) (fun t1 _ _ => (intOf t1).toNat)
  case atStart => exact Or.inl ⟨rfl, rfl, rfl⟩
  case round =>
    rcases hrel with ⟨rfl, rfl, rfl⟩ | ⟨hu, rfl, rfl, rfl⟩ | ⟨hu, rfl, rfl, rfl⟩ | ⟨hu, rfl, rfl, rfl⟩
    · by_cases h16 : u < 16
      · have j0 := ix36 u (by omega) h16
        have cv := cvt w ((r0).setIfInBounds 64 (.int .u8 (dg u))) 64 1 (l0 u) (c0 u) rfl
        have HE : Hid (hexs u = l0 u) := by show hexs u = l0 u; unfold hexs; rw [if_pos (by omega)]
        go_wp2
        go_ret2
        exact ⟨ret_str HE.out.symm, (Below.refl _ w).alloc (Nat.le_refl _) _⟩
      · go_wp2
        refine ⟨Or.inr (Or.inl ⟨by omega, rfl, rfl, rfl⟩), ?_⟩
        simp only [intOf]
        omega
    · by_cases h16 : (u / 16) < 16
      · have j0 := ix36 (u / 16) (by omega) h16
        have cv := cvt w ((r1 u).setIfInBounds 63 (.int .u8 (dg (u / 16)))) 63 2 (l1 u) (c1 u) rfl
        have HE : Hid (hexs u = l1 u) := by show hexs u = l1 u; unfold hexs; rw [if_neg (by omega), if_pos (by omega)]
        go_wp2
        go_ret2
        exact ⟨ret_str HE.out.symm, (Below.refl _ w).alloc (Nat.le_refl _) _⟩
      · go_wp2
        refine ⟨Or.inr (Or.inr (Or.inl ⟨by omega, rfl, rfl, rfl⟩)), ?_⟩
        simp only [intOf]
        omega
    · by_cases h16 : (u / 16 / 16) < 16
      · have j0 := ix36 (u / 16 / 16) (by omega) h16
        have cv := cvt w ((r2 u).setIfInBounds 62 (.int .u8 (dg (u / 16 / 16)))) 62 3 (l2 u) (c2 u) rfl
        have HE : Hid (hexs u = l2 u) := by show hexs u = l2 u; unfold hexs; rw [if_neg (by omega), if_neg (by omega), if_pos (by omega)]
        go_wp2
        go_ret2
        exact ⟨ret_str HE.out.symm, (Below.refl _ w).alloc (Nat.le_refl _) _⟩
      · go_wp2
        refine ⟨Or.inr (Or.inr (Or.inr (⟨by omega, rfl, rfl, rfl⟩))), ?_⟩
        simp only [intOf]
        omega
    · have h16 : u / 16 / 16 / 16 < 16 := by omega
      have j0 := ix36 (u / 16 / 16 / 16) (by omega) h16
      have cv := cvt w ((r3 u).setIfInBounds 61 (.int .u8 (dg (u / 16 / 16 / 16)))) 61 4 (l3 u) (c3 u) rfl
      have HE : Hid (hexs u = l3 u) := by show hexs u = l3 u; unfold hexs; rw [if_neg (by omega), if_neg (by omega), if_neg (by omega)]
      go_wp2
      go_ret2
      exact ⟨ret_str HE.out.symm, (Below.refl _ w).alloc (Nat.le_refl _) _⟩

set_option maxHeartbeats 400000 in
theorem ifmt16 (u : Int) (h0 : 0 ≤ u) (h1 : u < 65536) (w : World) (ht : ∀ o1, (w.alloc o1).cell? ⟨5, 15, none⟩ = some (.int .u8 4)) :
    Calls Tryz.prog 61 #[.int .i64 u, .int .i64 16] w fun e w' => e = .returned (.string ⟨(hexs u).toArray⟩) ∧ Below w.heap.size w w' := by
  have hd : decide (u < 0) = false := by simp; omega
  go_enter Tryz.func61, Tryz.ntmps61
  go_wp2_with fail
  refine (fb16 u h0 h1 _ ht).mono ?_
  rintro e w1 ⟨rfl, hb⟩
  go_wp2
  go_ret
  exact ⟨rfl, hb⟩

set_option maxHeartbeats 400000 in
theorem fmt16 (u : Int) (h0 : 0 ≤ u) (h1 : u < 65536) (w : World) (ht : ∀ o1, (w.alloc o1).cell? ⟨5, 15, none⟩ = some (.int .u8 4)) :
    Calls Tryz.prog 71 #[.int .i64 u, .int .i64 16] w fun e w' => e = .returned (.string ⟨(hexs u).toArray⟩) ∧ Below w.heap.size w w' := by
  go_enter Tryz.func71, Tryz.ntmps71
  go_wp2_with fail
  refine (ifmt16 u h0 h1 _ ht).mono ?_
  rintro e w1 ⟨rfl, hb⟩
  go_wp2
  go_ret
  exact ⟨rfl, hb⟩

end Go.Proofs.YtadhapggcifldaaGreatDoor
namespace Go.Proofs.YtadhapggcifldaaGreatDoor
open Go.RowKit

theorem ba_app (a b : List UInt8) : (⟨a.toArray⟩ : ByteArray) ++ (⟨b.toArray⟩ : ByteArray) = ⟨(a ++ b).toArray⟩ := by
  apply ByteArray.ext; simp
theorem ret_ba {a b : ByteArray} (h : a = b) : Ending.returned (.string a) = .returned (.string b) := by rw [h]

/-- The decimal digits of a number below 256. -/
def decs (x : Int) : List UInt8 := if x < 10 then [hexb x.toNat] else if x < 100 then [hexb (x / 10).toNat] ++ [hexb (x % 10).toNat] else ([hexb (x / 10 / 10).toNat] ++ [hexb (x / 10 % 10).toNat]) ++ [hexb (x % 10).toNat]

theorem uw (x : Int) : 0 ≤ IntKind.u64.wrap x ∧ IntKind.u64.wrap x < 18446744073709551616 := by rw [IntKind.wrap_u64]; omega
theorem and16 (u : Int) (h0 : 0 ≤ u) (h1 : u < 18446744073709551616) : bits .and .u64 u 65535 = u % 65536 := by
  obtain ⟨n, rfl⟩ := Int.eq_ofNat_of_zero_le h0
  rw [u64_and _ _ (by omega) (by omega) (by omega) (by omega)]
  have : (65535 : Int).toNat = 2 ^ 16 - 1 := by decide
  rw [this, Int.toNat_natCast, Nat.and_two_pow_sub_one_eq_mod]
  omega

/-- The eight groups of an address of 128 bits. -/
def grp (H L : Int) : Nat → Int
  | 0 => IntKind.u64.wrap H / 281474976710656 % 65536
  | 1 => IntKind.u64.wrap H / 4294967296 % 65536
  | 2 => IntKind.u64.wrap H / 65536 % 65536
  | 3 => IntKind.u64.wrap H % 65536
  | 4 => IntKind.u64.wrap L / 281474976710656 % 65536
  | 5 => IntKind.u64.wrap L / 4294967296 % 65536
  | 6 => IntKind.u64.wrap L / 65536 % 65536
  | 7 => IntKind.u64.wrap L % 65536
  | _ => 0
theorem grp_bd (H L : Int) (i : Nat) : 0 ≤ grp H L i ∧ grp H L i < 65536 := by
  unfold grp; split <;> omega

end Go.Proofs.YtadhapggcifldaaGreatDoor
namespace Go.Proofs.YtadhapggcifldaaGreatDoor
open Go.RowKit

theorem ba3 (a b c : List UInt8) : (⟨a.toArray⟩ : ByteArray) ++ (⟨b.toArray⟩ : ByteArray) ++ (⟨c.toArray⟩ : ByteArray) = ⟨(a ++ b ++ c).toArray⟩ := by rw [ba_app, ba_app]
theorem decs_len (x : Int) : (decs x).length ≤ 3 := by unfold decs; split; simp; split <;> simp
/-- The text of 32 bits. -/
def txt4 (L : Int) : List UInt8 := [] ++ decs (L / 16777216 % 256) ++ [46] ++ decs (L / 65536 % 256) ++ [46] ++ decs (L / 256 % 256) ++ [46] ++ decs (L % 256)

end Go.Proofs.YtadhapggcifldaaGreatDoor
namespace Go.Proofs.YtadhapggcifldaaGreatDoor

/-- How many noughts stand from place i on (f: how many places are left). -/
def run (g : Nat → Int) : Nat → Nat → Nat
  | 0, _ => 0
  | f + 1, i => if g i = 0 then run g f (i + 1) + 1 else 0

/-- The program's search: where the longest row begins, the place behind it, where the row at hand begins. -/
def lrow (g : Nat → Int) : Nat → Nat × Nat × Nat
  | 0 => (0, 0, 0)
  | i + 1 => if g i = 0 then (if i + 1 - (lrow g i).2.2 > (lrow g i).2.1 - (lrow g i).1 then ((lrow g i).2.2, i + 1, (lrow g i).2.2) else lrow g i)
      else ((lrow g i).1, (lrow g i).2.1, i + 1)

end Go.Proofs.YtadhapggcifldaaGreatDoor
