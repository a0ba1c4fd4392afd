/-
  What putSum_both needs, part 1.
-/
import Derived.Test.YtngcbhbcocnbeaaGreatRows
import Derived.Deep.RegionHeld3
import Derived.WalkKit
import Derived.WalkSpells
import Derived.WalkLawsBesides
import Derived.Deep.DeepCutAuto
import Derived.Deep.QuietTactic
import Derived.BigQuiet
import Derived.ProofKit
import Derived.Lib.SmallJoins
import Derived.Deep.RegionWith
import Derived.Deep.AppendSrc
import Derived.OwnWalk
import Derived.Carry
import Derived.Deep.Slices
import Derived.ChangeMaps5
namespace Go.Proofs.YtngcbhbcocnbeaaGreat

/-- What lies in the slots behind an operation. -/
theorem pa : (∀ (a : Act) (d : Tmp) (v : Value), a.put (some d) v = { a with tmps := a.tmps.setIfInBounds d v }) ∧ (∀ (a : Act) (v : Value), a.put none v = a) ∧
    (∀ (l : List Value) (i : Nat) (v : Value), l.toArray.setIfInBounds i v = (l.set i v).toArray) ∧ (∀ (x v : Value) (l : List Value), (x :: l).set 0 v = v :: l) ∧ (∀ (x v : Value) (l : List Value) (n : Nat), (x :: l).set (n + 1) v = x :: l.set n v) ∧
    (∀ (l : List Bool) (i : Nat) (v : Bool), l.toArray.setIfInBounds i v = (l.set i v).toArray) ∧ (∀ (x v : Bool) (l : List Bool), (x :: l).set 0 v = v :: l) ∧ (∀ (x v : Bool) (l : List Bool) (n : Nat), (x :: l).set (n + 1) v = x :: l.set n v) :=
  ⟨fun _ _ _ => rfl, fun _ _ => rfl, fun _ _ _ => List.setIfInBounds_toArray .., fun _ _ _ => rfl, fun _ _ _ _ => rfl, fun _ _ _ => List.setIfInBounds_toArray .., fun _ _ _ => rfl, fun _ _ _ _ => rfl⟩
theorem tkA {P : Program} {ops : Array Oper} {Q : Exit → Act → World → Prop} {md : Region.Mode} {S : World → Prop} (i d : Nat) {op : Op} {ty : TypeId} {ps : String} {af : Array Edge} {gd : Option (Nat × Bool)} {v : Value} {fuel : Nat} {listed : Array Bool} {a : Act} {w : World} (hi : ops[i]? = some (⟨some d, op, ty, ps, af, gd⟩ : Oper))
    (hb : (Region.noSelect ops && (Region.free md ops listed i && (Region.ready md ops listed).contains i)) = true) (hQ : ∀ c a w, Q (.panic c) (a.put (some d) v) w → Q (.panic c) a w)
    (hw : Region.wanted (⟨some d, op, ty, ps, af, gd⟩ : Oper) (yielded ops a.tmps) = true) (hy : ∀ w, S w → (execOp a.eval (⟨some d, op, ty, ps, af, gd⟩ : Oper)).run P w = .ok (.value v) w) (hS : S w)
    (h : wpAnyH P md ops Q S fuel (listed.setIfInBounds i true) (a.put (some d) v) w) : wpAnyH P md ops Q S (fuel + 1) listed a w := by
  rw [Bool.and_eq_true, Bool.and_eq_true] at hb
  exact wpAnyH_take hi hb.1 hb.2.1 hb.2.2 hQ (Or.inl ⟨hw, hy⟩) hS h

/-- The same, with what is mostly asked for proved on the spot. -/
theorem tk {P : Program} {ops : Array Oper} {Q : Exit → Act → World → Prop} {md : Region.Mode} {S : World → Prop} (i d : Nat) {op : Op} {ty : TypeId} {ps : String} {af : Array Edge} {gd : Option (Nat × Bool)} {v : Value} {fuel : Nat} {listed : Array Bool} {a : Act} {w : World} (hi : ops[i]? = some (⟨some d, op, ty, ps, af, gd⟩ : Oper))
    (h : wpAnyH P md ops Q S fuel (listed.setIfInBounds i true) (a.put (some d) v) w)
    (hb : (Region.noSelect ops && (Region.free md ops listed i && (Region.ready md ops listed).contains i)) = true := by kernel_rfl) (hQ : ∀ c a w, Q (.panic c) (a.put (some d) v) w → Q (.panic c) a w := by exact fun _ _ _ h => h)
    (hw : Region.wanted (⟨some d, op, ty, ps, af, gd⟩ : Oper) (yielded ops a.tmps) = true := by rfl) (hy : ∀ w, S w → (execOp a.eval (⟨some d, op, ty, ps, af, gd⟩ : Oper)).run P w = .ok (.value v) w := by (intro w hSw; (try dsimp only at hSw); go_simp; try with_reducible rfl)) (hS : S w := by assumption) : wpAnyH P md ops Q S (fuel + 1) listed a w :=
  tkA i d hi hb hQ hw hy hS h
theorem sk {P : Program} {ops : Array Oper} {Q : Exit → Act → World → Prop} {md : Region.Mode} {S : World → Prop} (i d : Nat) {op : Op} {ty : TypeId} {ps : String} {af : Array Edge} {gd : Option (Nat × Bool)} {fuel : Nat} {listed : Array Bool} {a : Act} {w : World} (hi : ops[i]? = some (⟨some d, op, ty, ps, af, gd⟩ : Oper))
    (h : wpAnyH P md ops Q S fuel (listed.setIfInBounds i true) (a.put (some d) undef) w)
    (hb : (Region.noSelect ops && (Region.free md ops listed i && (Region.ready md ops listed).contains i)) = true := by kernel_rfl) (hQ : ∀ c a w, Q (.panic c) (a.put (some d) undef) w → Q (.panic c) a w := by exact fun _ _ _ h => h)
    (hw : Region.wanted (⟨some d, op, ty, ps, af, gd⟩ : Oper) (yielded ops a.tmps) = false := by rfl) (hS : S w := by assumption) : wpAnyH P md ops Q S (fuel + 1) listed a w := by
  rw [Bool.and_eq_true, Bool.and_eq_true] at hb
  exact wpAnyH_take hi hb.1 hb.2.1 hb.2.2 hQ (Or.inr ⟨hw, rfl⟩) hS h

end Go.Proofs.YtngcbhbcocnbeaaGreat
namespace Go.Proofs.YtngcbhbcocnbeaaGreat
open Go.RowKit

def okB (s : Bool) (h l : Int) : Bool := s || (h == 0 && (decide (0 ≤ l) && decide (l ≤ 4294967295)))

theorem okB_t (h l : Int) : okB true h l = true := by simp [okB]
theorem okB_yes (l : Int) (h0 : 0 ≤ l) (h1 : l ≤ 4294967295) : okB false 0 l = true := by simp [okB, h0, h1]
theorem okB_h (h l : Int) (hh : (h == 0) = false) : okB false h l = false := by simp [okB, hh]
theorem okB_lo (l : Int) (h0 : ¬ 0 ≤ l) : okB false 0 l = false := by simp [okB, h0]
theorem okB_hi (l : Int) (h1 : ¬ l ≤ 4294967295) : okB false 0 l = false := by simp [okB, h1]

set_option maxHeartbeats 400000 in
theorem toAddr_any (s : Bool) (h l : Int) (w : World) :
    Calls Tryz.prog 113 #[.agg #[.bool s, .int .i64 h, .int .i64 l]] w fun e w' => e = .returned (.agg #[.bool s, .int .i64 h, .int .i64 l]) ∧ Below w.heap.size w w' := by
  go_enter Tryz.func113, Tryz.ntmps113
  go_wp2
  exact bodyPost_ret (v := .agg #[.bool s, .int .i64 h, .int .i64 l]) (by simp [results, Tryz.results113, go_sem]) rfl ⟨rfl, (((Below.refl _ _).alloc (Nat.le_refl _) _).alloc (by simp) _).alloc (by simp; omega) _⟩

set_option maxHeartbeats 400000 in
theorem sAddrOk_any (s : Bool) (h l : Int) (w : World) :
    Calls Tryz.prog 56 #[.agg #[.bool s, .int .i64 h, .int .i64 l]] w fun e w' => e = .returned (.bool (okB s h l)) ∧ Below w.heap.size w w' := by
  cases s
  · by_cases hh : h = 0
    · subst hh
      by_cases h0 : 0 ≤ l
      · by_cases h1 : l ≤ 4294967295
        · rw [okB_yes l h0 h1]
          go_enter Tryz.func56, Tryz.ntmps56
          go_wp2
          go_ret
          exact ⟨rfl, (Below.refl _ _).alloc (Nat.le_refl _) _⟩
        · rw [okB_hi l h1]
          go_enter Tryz.func56, Tryz.ntmps56
          go_wp2
          go_ret
          exact ⟨rfl, (Below.refl _ _).alloc (Nat.le_refl _) _⟩
      · rw [okB_lo l h0]
        go_enter Tryz.func56, Tryz.ntmps56
        go_wp2
        go_ret
        exact ⟨rfl, (Below.refl _ _).alloc (Nat.le_refl _) _⟩
    · have hb : (h == 0) = false := by simp [hh]
      rw [okB_h h l hb]
      clear hh
      go_enter Tryz.func56, Tryz.ntmps56
      go_wp2
      go_ret
      exact ⟨rfl, (Below.refl _ _).alloc (Nat.le_refl _) _⟩
  · rw [okB_t]
    go_enter Tryz.func56, Tryz.ntmps56
    go_wp2
    go_ret
    exact ⟨rfl, (Below.refl _ _).alloc (Nat.le_refl _) _⟩

set_option maxHeartbeats 400000 in
theorem iAddrOk_any (s : Bool) (h l : Int) (w : World) :
    Calls Tryz.prog 100 #[.agg #[.bool s, .int .i64 h, .int .i64 l]] w fun e w' => e = .returned (.bool (okB s h l)) ∧ Below w.heap.size w w' := by
  cases s
  · by_cases hh : h = 0
    · subst hh
      by_cases h0 : 0 ≤ l
      · by_cases h1 : l ≤ 4294967295
        · rw [okB_yes l h0 h1]
          go_enter Tryz.func100, Tryz.ntmps100
          go_wp2
          go_ret
          exact ⟨rfl, (Below.refl _ _).alloc (Nat.le_refl _) _⟩
        · rw [okB_hi l h1]
          go_enter Tryz.func100, Tryz.ntmps100
          go_wp2
          go_ret
          exact ⟨rfl, (Below.refl _ _).alloc (Nat.le_refl _) _⟩
      · rw [okB_lo l h0]
        go_enter Tryz.func100, Tryz.ntmps100
        go_wp2
        go_ret
        exact ⟨rfl, (Below.refl _ _).alloc (Nat.le_refl _) _⟩
    · have hb : (h == 0) = false := by simp [hh]
      rw [okB_h h l hb]
      clear hh
      go_enter Tryz.func100, Tryz.ntmps100
      go_wp2
      go_ret
      exact ⟨rfl, (Below.refl _ _).alloc (Nat.le_refl _) _⟩
  · rw [okB_t]
    go_enter Tryz.func100, Tryz.ntmps100
    go_wp2
    go_ret
    exact ⟨rfl, (Below.refl _ _).alloc (Nat.le_refl _) _⟩

/-- What lay below n reads as it did, behind whatever only makes memory from n on: two rules for a walk. -/
theorem olds {W w1 : World} {n : Nat} (hb : Below n W w1) :
    (∀ b o, b < n → w1.cell? ⟨b, o, none⟩ = W.cell? ⟨b, o, none⟩) ∧ (∀ b o, b < n → w1.frozen? ⟨b, o, none⟩ = W.frozen? ⟨b, o, none⟩) :=
  ⟨fun _ _ h => hb.cell h, fun _ _ h => hb.frozen h⟩

theorem olds_k {K : Prop} {W w1 : World} {B : Nat} (n : Nat) (hb : Below B W w1) (hn : n ≤ B)
    (k : (∀ b o, b < n → w1.cell? ⟨b, o, none⟩ = W.cell? ⟨b, o, none⟩) → (∀ b o, b < n → w1.frozen? ⟨b, o, none⟩ = W.frozen? ⟨b, o, none⟩) → K) : K :=
  k (olds (hb.mono hn)).1 (olds (hb.mono hn)).2

theorem ltk {K : Prop} (a b : Nat) (h : a < b) (k : a < b → K) : K := k h

end Go.Proofs.YtngcbhbcocnbeaaGreat
namespace Go.Proofs.YtngcbhbcocnbeaaGreat
open Go.RowKit

/-- (S, H, L) is the address (s, h, l) where that is right, else the zero one. -/
def Nrm (s : Bool) (h l : Int) (S : Bool) (H L : Int) : Prop := (okB s h l = true ∧ S = s ∧ H = h ∧ L = l) ∨ (okB s h l = false ∧ S = false ∧ H = 0 ∧ L = 0)

set_option maxHeartbeats 400000 in
theorem l1Addr_any (s : Bool) (h l : Int) (S : Bool) (H L : Int) (hz : Nrm s h l S H L) (w : World) :
    Calls Tryz.prog 110 #[.agg #[.bool s, .int .i64 h, .int .i64 l]] w fun e w' => e = .returned (.agg #[.bool S, .int .i64 H, .int .i64 L]) ∧ Below w.heap.size w w' := by
  rcases hz with ⟨ok, rfl, rfl, rfl⟩ | ⟨ok, rfl, rfl, rfl⟩
  · have HK : Hid (okB S H L = true) := ok
    clear ok
    go_enter Tryz.func110, Tryz.ntmps110
    go_wp2_with fail
    refine (sAddrOk_any S H L _).mono ?_
    rw [HK.out]
    rintro e w1 ⟨rfl, hb⟩
    obtain ⟨hc, hf⟩ := olds (n := w.heap.size + 2) (hb.mono (by simp))
    have hz := hb.size
    simp at hz
    go_wp2
    exact bodyPost_ret (v := .agg #[.bool S, .int .i64 H, .int .i64 L]) (by simp [results, Tryz.results110, go_sem, hc]) rfl ⟨rfl, (((((Below.refl _ w).alloc (Nat.le_refl _) _).alloc (by simp) _).trans (hb.mono (by simp; omega))).setCell (by simp) _).setCell (by simp) _ |>.setCell (by simp) _⟩
  · have HK : Hid (okB s h l = false) := ok
    clear ok
    go_enter Tryz.func110, Tryz.ntmps110
    go_wp2_with fail
    refine (sAddrOk_any s h l _).mono ?_
    rw [HK.out]
    rintro e w1 ⟨rfl, hb⟩
    obtain ⟨hc, hf⟩ := olds (n := w.heap.size + 2) (hb.mono (by simp))
    have hz := hb.size
    simp at hz
    go_wp2
    exact bodyPost_ret (v := .agg #[.bool false, .int .i64 0, .int .i64 0]) (by simp [results, Tryz.results110, go_sem, hc]) rfl ⟨rfl, (((((Below.refl _ w).alloc (Nat.le_refl _) _).alloc (by simp) _).trans (hb.mono (by simp; omega))).setCell (by simp) _).setCell (by simp) _ |>.setCell (by simp) _⟩

set_option maxHeartbeats 400000 in
theorem addrOrZero_any (s : Bool) (h l : Int) (S : Bool) (H L : Int) (hz : Nrm s h l S H L) (w : World) :
    Calls Tryz.prog 150 #[.agg #[.bool s, .int .i64 h, .int .i64 l]] w fun e w' => e = .returned (.agg #[.bool S, .int .i64 H, .int .i64 L]) ∧ Below w.heap.size w w' := by
  rcases hz with ⟨ok, rfl, rfl, rfl⟩ | ⟨ok, rfl, rfl, rfl⟩
  · have HK : Hid (okB S H L = true) := ok
    clear ok
    go_enter Tryz.func150, Tryz.ntmps150
    go_wp2_with fail
    refine (iAddrOk_any S H L _).mono ?_
    rw [HK.out]
    rintro e w1 ⟨rfl, hb⟩
    obtain ⟨hc, hf⟩ := olds (n := w.heap.size + 2) (hb.mono (by simp))
    have hz := hb.size
    simp at hz
    go_wp2
    exact bodyPost_ret (v := .agg #[.bool S, .int .i64 H, .int .i64 L]) (by simp [results, Tryz.results150, go_sem, hc]) rfl ⟨rfl, (((((Below.refl _ w).alloc (Nat.le_refl _) _).alloc (by simp) _).trans (hb.mono (by simp; omega))).setCell (by simp) _).setCell (by simp) _ |>.setCell (by simp) _⟩
  · have HK : Hid (okB s h l = false) := ok
    clear ok
    go_enter Tryz.func150, Tryz.ntmps150
    go_wp2_with fail
    refine (iAddrOk_any s h l _).mono ?_
    rw [HK.out]
    rintro e w1 ⟨rfl, hb⟩
    obtain ⟨hc, hf⟩ := olds (n := w.heap.size + 2) (hb.mono (by simp))
    have hz := hb.size
    simp at hz
    go_wp2
    exact bodyPost_ret (v := .agg #[.bool false, .int .i64 0, .int .i64 0]) (by simp [results, Tryz.results150, go_sem, hc]) rfl ⟨rfl, (((((Below.refl _ w).alloc (Nat.le_refl _) _).alloc (by simp) _).trans (hb.mono (by simp; omega))).setCell (by simp) _).setCell (by simp) _ |>.setCell (by simp) _⟩

end Go.Proofs.YtngcbhbcocnbeaaGreat

namespace Go.Proofs.YtngcbhbcocnbeaaGreat
open Go.RowKit

/-- Less, as numbers without a sign. -/
def ult (a b : Int) : Bool := decide (IntKind.u64.wrap a < IntKind.u64.wrap b)

theorem l1Less_any (a b : Int) (w : World) :
    Calls Tryz.prog 111 #[.int .i64 a, .int .i64 b] w fun e w' => e = .returned (.bool (ult a b)) ∧ w' = w := by
  go_enter Tryz.func111, Tryz.ntmps111
  go_wp2
  go_ret
  exact ⟨rfl, rfl⟩

/-- The library's comparing of two words. -/
def cmpW (a b : Int) : Int := if a < b then -1 else if b < a then 1 else 0

set_option maxHeartbeats 400000 in
theorem cmpCompare_any (a b : Int) (w : World) :
    Calls Tryz.prog 151 #[.int .u64 a, .int .u64 b] w fun e w' => e = .returned (.int .i64 (cmpW a b)) ∧ w' = w := by
  by_cases h1 : a < b
  · have e : cmpW a b = -1 := by simp [cmpW, h1]
    rw [e]
    go_enter Tryz.func151, Tryz.ntmps151
    go_wp2
    go_ret
    exact ⟨rfl, rfl⟩
  · by_cases h2 : b < a
    · have e : cmpW a b = 1 := by simp [cmpW, h1, h2]
      rw [e]
      go_enter Tryz.func151, Tryz.ntmps151
      go_wp2
      go_ret
      exact ⟨rfl, rfl⟩
    · have e : cmpW a b = 0 := by simp [cmpW, h1, h2]
      rw [e]
      go_enter Tryz.func151, Tryz.ntmps151
      go_wp2
      go_ret
      exact ⟨rfl, rfl⟩

end Go.Proofs.YtngcbhbcocnbeaaGreat
namespace Go.Proofs.YtngcbhbcocnbeaaGreat
open Go.RowKit

/-- The library's comparing of two rows of three words. -/
def cmp3 (a0 a1 a2 b0 b1 b2 : Int) : Int := if cmpW a0 b0 ≠ 0 then cmpW a0 b0 else if cmpW a1 b1 ≠ 0 then cmpW a1 b1 else cmpW a2 b2

theorem ret_int {k : IntKind} {a b : Int} (h : a = b) : Ending.returned (.int k a) = .returned (.int k b) := by rw [h]
/-- Two words that the library finds the same. -/
def Same (a b : Int) : Prop := (cmpW a b != 0) = false

theorem cmp3_0 {a0 a1 a2 b0 b1 b2 : Int} (h : (cmpW a0 b0 != 0) = true) : cmp3 a0 a1 a2 b0 b1 b2 = cmpW a0 b0 := by
  simp at h; simp [cmp3, h]
theorem cmp3_1 {a0 a1 a2 b0 b1 b2 : Int} (h0 : Same a0 b0) (h : (cmpW a1 b1 != 0) = true) : cmp3 a0 a1 a2 b0 b1 b2 = cmpW a1 b1 := by
  simp [Same] at h h0; simp [cmp3, h, h0]
theorem cmp3_2 {a0 a1 a2 b0 b1 b2 : Int} (h0 : Same a0 b0) (h1 : Same a1 b1) : cmp3 a0 a1 a2 b0 b1 b2 = cmpW a2 b2 := by
  simp [Same] at h1 h0; simp [cmp3, h1, h0]

set_option maxHeartbeats 1000000 in
theorem slCompare_any (a0 a1 a2 b0 b1 b2 : Int) (p q : Nat) (w : World)
    (x0 : w.cell? ⟨p, 0, none⟩ = some (.int .u64 a0)) (x1 : w.cell? ⟨p, 1, none⟩ = some (.int .u64 a1)) (x2 : w.cell? ⟨p, 2, none⟩ = some (.int .u64 a2))
    (y0 : w.cell? ⟨q, 0, none⟩ = some (.int .u64 b0)) (y1 : w.cell? ⟨q, 1, none⟩ = some (.int .u64 b1)) (y2 : w.cell? ⟨q, 2, none⟩ = some (.int .u64 b2)) :
    Calls Tryz.prog 138 #[.slice (some ⟨p, 0, none⟩) 3 3, .slice (some ⟨q, 0, none⟩) 3 3] w fun e w' => e = .returned (.int .i64 (cmp3 a0 a1 a2 b0 b1 b2)) ∧ w' = w := by
  go_enter Tryz.func138, Tryz.ntmps138
  go_wp2
  go_loop [11] (fun i => i = .int .i64 0 ∨ (i = .int .i64 1 ∧ Same a0 b0) ∨ (i = .int .i64 2 ∧ Same a0 b0 ∧ Same a1 b1) ∨ (i = .int .i64 3 ∧ Same a0 b0 ∧ Same a1 b1 ∧ Same a2 b2)) (fun i => 3 - (intOf i).toNat)
  case atStart => exact Or.inl rfl
  case round =>
    rcases hrel with rfl | ⟨rfl, k0⟩ | ⟨rfl, k0, k1⟩ | ⟨rfl, k0, k1, k2⟩
    · cases hc : (cmpW a0 b0 != 0)
      · go_wp2_with (go_at_call 151; refine (cmpCompare_any _ _ _).mono ?_; rintro e w' ⟨rfl, rfl⟩)
        go_round
        case rel => exact Or.inr (Or.inl ⟨rfl, hc⟩)
        case measure => simp [intOf]
      · go_wp2_with (go_at_call 151; refine (cmpCompare_any _ _ _).mono ?_; rintro e w' ⟨rfl, rfl⟩)
        go_ret
        exact ⟨ret_int (cmp3_0 hc).symm, rfl⟩
    · cases hc : (cmpW a1 b1 != 0)
      · go_wp2_with (go_at_call 151; refine (cmpCompare_any _ _ _).mono ?_; rintro e w' ⟨rfl, rfl⟩)
        go_round
        case rel => exact Or.inr (Or.inr (Or.inl ⟨rfl, k0, hc⟩))
        case measure => simp [intOf]
      · go_wp2_with (go_at_call 151; refine (cmpCompare_any _ _ _).mono ?_; rintro e w' ⟨rfl, rfl⟩)
        go_ret
        exact ⟨ret_int (cmp3_1 k0 hc).symm, rfl⟩
    · cases hc : (cmpW a2 b2 != 0)
      · go_wp2_with (go_at_call 151; refine (cmpCompare_any _ _ _).mono ?_; rintro e w' ⟨rfl, rfl⟩)
        go_round
        case rel => exact Or.inr (Or.inr (Or.inr ⟨rfl, k0, k1, hc⟩))
        case measure => simp [intOf]
      · go_wp2_with (go_at_call 151; refine (cmpCompare_any _ _ _).mono ?_; rintro e w' ⟨rfl, rfl⟩)
        go_ret
        exact ⟨ret_int (cmp3_2 k0 k1).symm, rfl⟩
    · have hz : cmp3 a0 a1 a2 b0 b1 b2 = 0 := by rw [cmp3_2 k0 k1]; simpa [Same] using k2
      have HZ : Hid (cmp3 a0 a1 a2 b0 b1 b2 = 0) := hz
      clear hz
      go_wp2
      go_ret
      exact ⟨ret_int HZ.out.symm, rfl⟩

/-- The three words by which the program orders an address. -/
def Rank (S : Bool) (H L r0 r1 r2 : Int) : Prop := (S = true ∧ r0 = 1 ∧ r1 = IntKind.u64.wrap H ∧ r2 = IntKind.u64.wrap L) ∨ (S = false ∧ r0 = 0 ∧ r1 = 0 ∧ r2 = IntKind.u64.wrap L)

set_option maxHeartbeats 400000 in
theorem rankOf_any (s : Bool) (h l : Int) (S : Bool) (H L r0 r1 r2 : Int) (hz : Nrm s h l S H L) (hr : Rank S H L r0 r1 r2) (w : World) :
    Calls Tryz.prog 137 #[.agg #[.bool s, .int .i64 h, .int .i64 l]] w fun e w' => e = .returned (.agg #[.int .u64 r0, .int .u64 r1, .int .u64 r2]) ∧ Below w.heap.size w w' := by
  rcases hr with ⟨rfl, rfl, rfl, rfl⟩ | ⟨rfl, rfl, rfl, rfl⟩
  all_goals
    go_enter Tryz.func137, Tryz.ntmps137
    go_wp2_with fail
    refine (addrOrZero_any _ _ _ _ _ _ hz _).mono ?_
    rintro e w1 ⟨rfl, hb⟩
    obtain ⟨hc, hf⟩ := olds (n := w.heap.size + 2) (hb.mono (by simp))
    have hz := hb.size
    simp at hz
    go_wp2
  · generalize IntKind.u64.wrap H = r1
    generalize IntKind.u64.wrap L = r2
    refine bodyPost_ret (v := .agg #[.int .u64 1, .int .u64 r1, .int .u64 r2]) (by simp [results, Tryz.results137, go_sem, hc]) rfl ⟨rfl, ?_⟩
    have b1 : Below w.heap.size w w1 := (((Below.refl _ w).alloc (Nat.le_refl _) _).alloc (by simp) _).trans (hb.mono (by simp; omega))
    exact (((((b1.setCell (by simp) _).setCell (by simp) _).setCell (by simp) _).setCell (by simp) _).setCell (by simp) _).setCell (by simp) _
  · generalize IntKind.u64.wrap L = r2
    refine bodyPost_ret (v := .agg #[.int .u64 0, .int .u64 0, .int .u64 r2]) (by simp [results, Tryz.results137, go_sem, hc]) rfl ⟨rfl, ?_⟩
    have b1 : Below w.heap.size w w1 := (((Below.refl _ w).alloc (Nat.le_refl _) _).alloc (by simp) _).trans (hb.mono (by simp; omega))
    exact (((((b1.setCell (by simp) _).setCell (by simp) _).setCell (by simp) _).setCell (by simp) _).setCell (by simp) _).setCell (by simp) _

end Go.Proofs.YtngcbhbcocnbeaaGreat
namespace Go.Proofs.YtngcbhbcocnbeaaGreat
open Go.RowKit

/-- '==' on two rows of three words. -/
theorem eqArr (a b c d e f : Int) (w : World) : (Op.equalIn 10000 180 (.agg #[.int .u64 a, .int .u64 b, .int .u64 c]) (.agg #[.int .u64 d, .int .u64 e, .int .u64 f])).run Tryz.prog w = .ok (a == d && (b == e && c == f)) w := by
  have u3 := Tryz.underlying107
  have a3 := Tryz.isAgg107
  have z3 := Tryz.sizeOf107
  rw [show (10000 : Nat) = 9999 + 1 from rfl, Op.equalIn]
  simp only [Sem.run_bind, run_underlying Tryz.underlying180, Result.andThen_ok]
  simp only [Std.Legacy.Range.forIn_eq_forIn_range', Std.Legacy.Range.size, Nat.sub_zero, Nat.add_sub_cancel, Nat.div_one, List.range'_succ, List.range'_zero, List.forIn_cons, List.forIn_nil]
  go_simp
  by_cases h1 : a = d <;> by_cases h2 : b = e <;> by_cases h3 : c = f <;> simp [h1, h2, h3]

theorem cmp3_same {a b c d e f : Int} (h : (a == d && (b == e && c == f)) = true) : cmp3 a b c d e f = 0 := by
  simp at h
  obtain ⟨rfl, rfl, rfl⟩ := h
  simp [cmp3, cmpW]

/-- Six cells of two boxes, behind whatever only makes memory from n on. -/
theorem six_of_below {W X : World} {n b c : Nat} {v0 v1 v2 u0 u1 u2 : Value} (hB : Below n W X) (hb : b < n) (hc : c < n)
    (k : W.cell? ⟨b, 0, none⟩ = some v0 ∧ W.cell? ⟨b, 1, none⟩ = some v1 ∧ W.cell? ⟨b, 2, none⟩ = some v2 ∧ W.cell? ⟨c, 0, none⟩ = some u0 ∧ W.cell? ⟨c, 1, none⟩ = some u1 ∧ W.cell? ⟨c, 2, none⟩ = some u2) :
    X.cell? ⟨b, 0, none⟩ = some v0 ∧ X.cell? ⟨b, 1, none⟩ = some v1 ∧ X.cell? ⟨b, 2, none⟩ = some v2 ∧ X.cell? ⟨c, 0, none⟩ = some u0 ∧ X.cell? ⟨c, 1, none⟩ = some u1 ∧ X.cell? ⟨c, 2, none⟩ = some u2 := by
  obtain ⟨k0, k1, k2, k3, k4, k5⟩ := k
  exact ⟨(hB.cell hb).trans k0, (hB.cell hb).trans k1, (hB.cell hb).trans k2, (hB.cell hc).trans k3, (hB.cell hc).trans k4, (hB.cell hc).trans k5⟩

set_option maxHeartbeats 8000000 in
theorem iCmp_ne (s : Bool) (h l : Int) (s' : Bool) (h' l' : Int) (S : Bool) (H L : Int) (S' : Bool) (H' L' : Int) (r0 r1 r2 q0 q1 q2 : Int)
    (hz : Nrm s h l S H L) (hr : Rank S H L r0 r1 r2) (hz' : Nrm s' h' l' S' H' L') (hr' : Rank S' H' L' q0 q1 q2) (w : World) :
    Calls Tryz.prog 119 #[.agg #[.bool s, .int .i64 h, .int .i64 l], .agg #[.bool s', .int .i64 h', .int .i64 l']] w fun e w' => e = .returned (.int .i64 (cmp3 r0 r1 r2 q0 q1 q2)) ∧ Below w.heap.size w w' := by
  go_enter Tryz.func119, Tryz.ntmps119
  go_upto_region 1 with fail
  go_cut [5, 6] (fun t5 t6 wc => ∃ p q : Nat, t5 = .pointer (some ⟨p, 0, none⟩) ∧ t6 = .pointer (some ⟨q, 0, none⟩)
    ∧ (wc.cell? ⟨p, 0, none⟩ = some (.int .u64 r0) ∧ wc.cell? ⟨p, 1, none⟩ = some (.int .u64 r1) ∧ wc.cell? ⟨p, 2, none⟩ = some (.int .u64 r2))
    ∧ (wc.cell? ⟨q, 0, none⟩ = some (.int .u64 q0) ∧ wc.cell? ⟨q, 1, none⟩ = some (.int .u64 q1) ∧ wc.cell? ⟨q, 2, none⟩ = some (.int .u64 q2))
    ∧ Below w.heap.size w wc)
  case first =>
    go_region_held3 (fun x => x.cell? ⟨w.heap.size, 0, none⟩ = some (.bool s) ∧ x.cell? ⟨w.heap.size, 1, none⟩ = some (.int .i64 h) ∧ x.cell? ⟨w.heap.size, 2, none⟩ = some (.int .i64 l)
        ∧ x.cell? ⟨w.heap.size + 1, 0, none⟩ = some (.bool s') ∧ x.cell? ⟨w.heap.size + 1, 1, none⟩ = some (.int .i64 h') ∧ x.cell? ⟨w.heap.size + 1, 2, none⟩ = some (.int .i64 l')) ((refine six_of_below (W := (w.alloc (.cells #[.bool s, .int .i64 h, .int .i64 l] 64)).alloc (.cells #[.bool s', .int .i64 h', .int .i64 l'] 64)) (n := w.heap.size + 2) ?_ (Nat.lt_add_of_pos_right (Nat.succ_pos _)) (Nat.lt_succ_self _) ⟨by simp [go_sem], by simp [go_sem], by simp [go_sem], by simp [go_sem], by simp [go_sem], by simp [go_sem]⟩; repeat (first | with_reducible exact Below.refl _ _ | (with_reducible refine Below.drew ?_) | (with_reducible refine Below.alloc ?_ ?_ _; rotate_left; (focus (first | omega | (simp; omega) | (simp; done)))) | (with_reducible refine Below.setCell ?_ ?_ _; rotate_left; (focus (first | omega | (simp; omega) | (simp; done)))) | (with_reducible refine Below.trans ?_ (hb2.mono ?_); rotate_left; (focus (first | omega | (simp; omega) | (simp; done)))) | (with_reducible refine Below.trans ?_ (hb1.mono ?_); rotate_left; (focus (first | omega | (simp; omega) | (simp; done)))))))
      (first
        | (go_at_call_of 137 (Value.int .i64 h); refine (rankOf_any s h l S H L r0 r1 r2 hz hr _).mono ?_; rintro e w1 ⟨rfl, hb1⟩; have hz1 := hb1.size; (try simp at hz1); (first | (refine ltk (w.heap.size) (w1.heap.size) ?_ ?_; (focus omega); intro f0) | skip); (first | (refine ltk (w.heap.size + 1) (w1.heap.size) ?_ ?_; (focus omega); intro f1) | skip); (first | (refine ltk (w.heap.size + 2) (w1.heap.size) ?_ ?_; (focus omega); intro f2) | skip); (first | (refine ltk (w.heap.size + 3) (w1.heap.size) ?_ ?_; (focus omega); intro f3) | skip); (first | (refine olds_k (w.heap.size + 4) hb1 ?_ ?_; (focus (first | omega | (simp; omega) | (simp; done))); intro hc1 hf1) | (refine olds_k (w.heap.size + 3) hb1 ?_ ?_; (focus (first | omega | (simp; omega) | (simp; done))); intro hc1 hf1) | (refine olds_k (w.heap.size + 2) hb1 ?_ ?_; (focus (first | omega | (simp; omega) | (simp; done))); intro hc1 hf1)))
        | (go_at_call_of 137 (Value.int .i64 h'); refine (rankOf_any s' h' l' S' H' L' q0 q1 q2 hz' hr' _).mono ?_; rintro e w2 ⟨rfl, hb2⟩; have hz2 := hb2.size; (try simp at hz2); (first | (refine ltk (w.heap.size) (w2.heap.size) ?_ ?_; (focus omega); intro g0) | skip); (first | (refine ltk (w.heap.size + 1) (w2.heap.size) ?_ ?_; (focus omega); intro g1) | skip); (first | (refine ltk (w.heap.size + 2) (w2.heap.size) ?_ ?_; (focus omega); intro g2) | skip); (first | (refine ltk (w.heap.size + 3) (w2.heap.size) ?_ ?_; (focus omega); intro g3) | skip); (first | (refine ltk (w1.heap.size) (w2.heap.size) ?_ ?_; (focus omega); intro k0) | skip); (first | (refine ltk (w1.heap.size + 1) (w2.heap.size) ?_ ?_; (focus omega); intro k1) | skip); (first | (refine olds_k (w.heap.size + 4) hb2 ?_ ?_; (focus (first | omega | (simp; omega) | (simp; done))); intro hc2 hf2) | (refine olds_k (w.heap.size + 3) hb2 ?_ ?_; (focus (first | omega | (simp; omega) | (simp; done))); intro hc2 hf2) | (refine olds_k (w.heap.size + 2) hb2 ?_ ?_; (focus (first | omega | (simp; omega) | (simp; done))); intro hc2 hf2)); (first | (refine olds_k (w1.heap.size + 2) hb2 ?_ ?_; (focus (first | omega | (simp; omega) | (simp; done))); intro hc3 hf3) | (refine olds_k (w1.heap.size + 1) hb2 ?_ ?_; (focus (first | omega | (simp; omega) | (simp; done))); intro hc3 hf3) | (refine olds_k (w1.heap.size) hb2 ?_ ?_; (focus (first | omega | (simp; omega) | (simp; done))); intro hc3 hf3))))
    all_goals
      go_wp2_with fail
      go_meet
      refine ⟨_, _, rfl, rfl, ⟨?_, ?_, ?_⟩, ⟨?_, ?_, ?_⟩, ?_⟩
      all_goals try (go_simp; done)
      repeat (first | with_reducible exact Below.refl _ _ | (with_reducible refine Below.drew ?_) | (with_reducible refine Below.alloc ?_ ?_ _; rotate_left; (focus (first | omega | (simp; omega) | (simp; done)))) | (with_reducible refine Below.setCell ?_ ?_ _; rotate_left; (focus (first | omega | (simp; omega) | (simp; done)))) | (with_reducible refine Below.trans ?_ (hb2.mono ?_); rotate_left; (focus (first | omega | (simp; omega) | (simp; done)))) | (with_reducible refine Below.trans ?_ (hb1.mono ?_); rotate_left; (focus (first | omega | (simp; omega) | (simp; done)))))
  case rest =>
    obtain ⟨p, q, rfl, rfl, ⟨x0, x1, x2⟩, ⟨y0, y1, y2⟩, hb⟩ := hcut
    cases hE : (r0 == q0 && (r1 == q1 && r2 == q2))
    · have hq : ∀ wx, (Op.equalIn 10000 180 (.agg #[.int .u64 r0, .int .u64 r1, .int .u64 r2]) (.agg #[.int .u64 q0, .int .u64 q1, .int .u64 q2])).run Tryz.prog wx = .ok false wx := fun wx => by rw [eqArr, hE]
      clear hE
      go_wp2_with fail
      go_quiet ((go_at_call 138; exact Calls.quiet_of_same (slCompare_any r0 r1 r2 q0 q1 q2 p q _ x0 x1 x2 y0 y1 y2)))
      go_wp2
      go_ret
      exact ⟨rfl, below_drewN hb _⟩
    · have hq : ∀ wx, (Op.equalIn 10000 180 (.agg #[.int .u64 r0, .int .u64 r1, .int .u64 r2]) (.agg #[.int .u64 q0, .int .u64 q1, .int .u64 q2])).run Tryz.prog wx = .ok true wx := fun wx => by rw [eqArr, hE]
      have HZ : Hid (cmp3 r0 r1 r2 q0 q1 q2 = 0) := cmp3_same hE
      clear hE
      go_wp2
      go_ret
      exact ⟨ret_int HZ.out.symm, hb⟩

end Go.Proofs.YtngcbhbcocnbeaaGreat
namespace Go.Proofs.YtngcbhbcocnbeaaGreat
open Go.RowKit

/-- '==' on two addresses. -/
theorem eqSt (a : Bool) (b c : Int) (d : Bool) (e f : Int) (w : World) : (Op.equalIn 10000 64 (.agg #[.bool a, .int .i64 b, .int .i64 c]) (.agg #[.bool d, .int .i64 e, .int .i64 f])).run Tryz.prog w = .ok (a == d && (b == e && c == f)) w := by
  have u3 := Tryz.underlying3
  have a3 := Tryz.isAgg3
  have z3 := Tryz.sizeOf3
  have u4 := Tryz.underlying4
  have a4 := Tryz.isAgg4
  have z4 := Tryz.sizeOf4
  have hS : Tryz.prog.underlying 64 = some (.struct (Tryz.prog.fieldsOf 64)) := by kernel_rfl
  have hp : Tryz.prog.stoodInHeld 64 = false := by kernel_rfl
  rw [show (10000 : Nat) = 9999 + 1 from rfl, run_equalIn_agg w 9999 64 _ _ hS hp]
  simp only [Program.fieldsOf, Tryz.underlying64]
  go_simp
  by_cases h1 : a = d <;> by_cases h2 : b = e <;> by_cases h3 : c = f <;> simp [h1, h2, h3]

set_option maxHeartbeats 1000000 in
theorem sCmp_eq (s : Bool) (h l : Int) (s' : Bool) (h' l' : Int) (S : Bool) (S' : Bool) (H L H' L' : Int) (hz : Nrm s h l S H L) (hz' : Nrm s' h' l' S' H' L') (hq : ∀ wx, (Op.equalIn 10000 64 (.agg #[.bool S, .int .i64 H, .int .i64 L]) (.agg #[.bool S', .int .i64 H', .int .i64 L'])).run Tryz.prog wx = .ok true wx) (w : World) :
    Calls Tryz.prog 88 #[.agg #[.bool s, .int .i64 h, .int .i64 l], .agg #[.bool s', .int .i64 h', .int .i64 l']] w fun e w' => e = .returned (.int .i64 (0)) ∧ Below w.heap.size w w' := by
  go_enter Tryz.func88, Tryz.ntmps88
  go_wp2_with fail
  refine (l1Addr_any _ _ _ _ _ _ hz _).mono ?_
  rintro e w1 ⟨rfl, hb1⟩
  obtain ⟨hc1, hf1⟩ := olds (n := w.heap.size + 2) (hb1.mono (by simp))
  have z1 : w.heap.size + 1 < w1.heap.size := by have := hb1.size; simp at this; omega
  have z0 : w.heap.size < w1.heap.size := by omega
  have b1 : Below w.heap.size w w1 := (((Below.refl _ w).alloc (Nat.le_refl _) _).alloc (by simp) _).trans (hb1.mono (by simp; omega))
  go_wp2_with fail
  refine (l1Addr_any _ _ _ _ _ _ hz' _).mono ?_
  rintro e w2 ⟨rfl, hb2⟩
  obtain ⟨hc2, hf2⟩ := olds (n := w.heap.size + 2) (hb2.mono (by simp; omega))
  have y1 : w.heap.size + 1 < w2.heap.size := by have := hb2.size; simp at this; omega
  have y0 : w.heap.size < w2.heap.size := by omega
  have b2 : Below w.heap.size w w2 := by
    refine Below.trans ?_ (hb2.mono (by simp; omega))
    repeat (first | with_reducible exact b1 | (with_reducible refine Below.setCell ?_ (by first | omega | (simp; done) | (simp; omega)) _))
  go_wp2_with fail
  go_ret
  refine ⟨rfl, ?_⟩
  repeat (first | with_reducible exact b2 | (with_reducible refine Below.setCell ?_ (by first | omega | (simp; done) | (simp; omega)) _))

set_option maxHeartbeats 1000000 in
theorem sCmp_ft (s : Bool) (h l : Int) (s' : Bool) (h' l' : Int) (H L H' L' : Int) (hz : Nrm s h l false H L) (hz' : Nrm s' h' l' true H' L') (hq : ∀ wx, (Op.equalIn 10000 64 (.agg #[.bool false, .int .i64 H, .int .i64 L]) (.agg #[.bool true, .int .i64 H', .int .i64 L'])).run Tryz.prog wx = .ok false wx) (w : World) :
    Calls Tryz.prog 88 #[.agg #[.bool s, .int .i64 h, .int .i64 l], .agg #[.bool s', .int .i64 h', .int .i64 l']] w fun e w' => e = .returned (.int .i64 (-1)) ∧ Below w.heap.size w w' := by
  go_enter Tryz.func88, Tryz.ntmps88
  go_wp2_with fail
  refine (l1Addr_any _ _ _ _ _ _ hz _).mono ?_
  rintro e w1 ⟨rfl, hb1⟩
  obtain ⟨hc1, hf1⟩ := olds (n := w.heap.size + 2) (hb1.mono (by simp))
  have z1 : w.heap.size + 1 < w1.heap.size := by have := hb1.size; simp at this; omega
  have z0 : w.heap.size < w1.heap.size := by omega
  have b1 : Below w.heap.size w w1 := (((Below.refl _ w).alloc (Nat.le_refl _) _).alloc (by simp) _).trans (hb1.mono (by simp; omega))
  go_wp2_with fail
  refine (l1Addr_any _ _ _ _ _ _ hz' _).mono ?_
  rintro e w2 ⟨rfl, hb2⟩
  obtain ⟨hc2, hf2⟩ := olds (n := w.heap.size + 2) (hb2.mono (by simp; omega))
  have y1 : w.heap.size + 1 < w2.heap.size := by have := hb2.size; simp at this; omega
  have y0 : w.heap.size < w2.heap.size := by omega
  have b2 : Below w.heap.size w w2 := by
    refine Below.trans ?_ (hb2.mono (by simp; omega))
    repeat (first | with_reducible exact b1 | (with_reducible refine Below.setCell ?_ (by first | omega | (simp; done) | (simp; omega)) _))
  go_wp2_with fail
  go_ret
  refine ⟨rfl, ?_⟩
  repeat (first | with_reducible exact b2 | (with_reducible refine Below.setCell ?_ (by first | omega | (simp; done) | (simp; omega)) _))

set_option maxHeartbeats 1000000 in
theorem sCmp_tf (s : Bool) (h l : Int) (s' : Bool) (h' l' : Int) (H L H' L' : Int) (hz : Nrm s h l true H L) (hz' : Nrm s' h' l' false H' L') (hq : ∀ wx, (Op.equalIn 10000 64 (.agg #[.bool true, .int .i64 H, .int .i64 L]) (.agg #[.bool false, .int .i64 H', .int .i64 L'])).run Tryz.prog wx = .ok false wx) (w : World) :
    Calls Tryz.prog 88 #[.agg #[.bool s, .int .i64 h, .int .i64 l], .agg #[.bool s', .int .i64 h', .int .i64 l']] w fun e w' => e = .returned (.int .i64 (1)) ∧ Below w.heap.size w w' := by
  go_enter Tryz.func88, Tryz.ntmps88
  go_wp2_with fail
  refine (l1Addr_any _ _ _ _ _ _ hz _).mono ?_
  rintro e w1 ⟨rfl, hb1⟩
  obtain ⟨hc1, hf1⟩ := olds (n := w.heap.size + 2) (hb1.mono (by simp))
  have z1 : w.heap.size + 1 < w1.heap.size := by have := hb1.size; simp at this; omega
  have z0 : w.heap.size < w1.heap.size := by omega
  have b1 : Below w.heap.size w w1 := (((Below.refl _ w).alloc (Nat.le_refl _) _).alloc (by simp) _).trans (hb1.mono (by simp; omega))
  go_wp2_with fail
  refine (l1Addr_any _ _ _ _ _ _ hz' _).mono ?_
  rintro e w2 ⟨rfl, hb2⟩
  obtain ⟨hc2, hf2⟩ := olds (n := w.heap.size + 2) (hb2.mono (by simp; omega))
  have y1 : w.heap.size + 1 < w2.heap.size := by have := hb2.size; simp at this; omega
  have y0 : w.heap.size < w2.heap.size := by omega
  have b2 : Below w.heap.size w w2 := by
    refine Below.trans ?_ (hb2.mono (by simp; omega))
    repeat (first | with_reducible exact b1 | (with_reducible refine Below.setCell ?_ (by first | omega | (simp; done) | (simp; omega)) _))
  go_wp2_with fail
  go_ret
  refine ⟨rfl, ?_⟩
  repeat (first | with_reducible exact b2 | (with_reducible refine Below.setCell ?_ (by first | omega | (simp; done) | (simp; omega)) _))

set_option maxHeartbeats 1000000 in
theorem sCmp_lt1 (s : Bool) (h l : Int) (s' : Bool) (h' l' : Int) (S : Bool) (H L H' L' : Int) (hz : Nrm s h l S H L) (hz' : Nrm s' h' l' S H' L') (hq : ∀ wx, (Op.equalIn 10000 64 (.agg #[.bool S, .int .i64 H, .int .i64 L]) (.agg #[.bool S, .int .i64 H', .int .i64 L'])).run Tryz.prog wx = .ok false wx) (u1 : Hid (ult H H' = true)) (w : World) :
    Calls Tryz.prog 88 #[.agg #[.bool s, .int .i64 h, .int .i64 l], .agg #[.bool s', .int .i64 h', .int .i64 l']] w fun e w' => e = .returned (.int .i64 (-1)) ∧ Below w.heap.size w w' := by
  go_enter Tryz.func88, Tryz.ntmps88
  go_wp2_with fail
  refine (l1Addr_any _ _ _ _ _ _ hz _).mono ?_
  rintro e w1 ⟨rfl, hb1⟩
  obtain ⟨hc1, hf1⟩ := olds (n := w.heap.size + 2) (hb1.mono (by simp))
  have z1 : w.heap.size + 1 < w1.heap.size := by have := hb1.size; simp at this; omega
  have z0 : w.heap.size < w1.heap.size := by omega
  have b1 : Below w.heap.size w w1 := (((Below.refl _ w).alloc (Nat.le_refl _) _).alloc (by simp) _).trans (hb1.mono (by simp; omega))
  go_wp2_with fail
  refine (l1Addr_any _ _ _ _ _ _ hz' _).mono ?_
  rintro e w2 ⟨rfl, hb2⟩
  obtain ⟨hc2, hf2⟩ := olds (n := w.heap.size + 2) (hb2.mono (by simp; omega))
  have y1 : w.heap.size + 1 < w2.heap.size := by have := hb2.size; simp at this; omega
  have y0 : w.heap.size < w2.heap.size := by omega
  have b2 : Below w.heap.size w w2 := by
    refine Below.trans ?_ (hb2.mono (by simp; omega))
    repeat (first | with_reducible exact b1 | (with_reducible refine Below.setCell ?_ (by first | omega | (simp; done) | (simp; omega)) _))
  go_wp2_with fail
  refine (l1Less_any _ _ _).mono ?_
  rw [u1.out]
  rintro e w3 ⟨rfl, rfl⟩
  go_wp2_with fail
  go_ret
  refine ⟨rfl, ?_⟩
  repeat (first | with_reducible exact b2 | (with_reducible refine Below.setCell ?_ (by first | omega | (simp; done) | (simp; omega)) _))

set_option maxHeartbeats 1000000 in
theorem sCmp_lt2 (s : Bool) (h l : Int) (s' : Bool) (h' l' : Int) (S : Bool) (H L H' L' : Int) (hz : Nrm s h l S H L) (hz' : Nrm s' h' l' S H' L') (hq : ∀ wx, (Op.equalIn 10000 64 (.agg #[.bool S, .int .i64 H, .int .i64 L]) (.agg #[.bool S, .int .i64 H', .int .i64 L'])).run Tryz.prog wx = .ok false wx) (u1 : Hid (ult H H' = false)) (e1 : (H == H') = true) (u2 : Hid (ult L L' = true)) (w : World) :
    Calls Tryz.prog 88 #[.agg #[.bool s, .int .i64 h, .int .i64 l], .agg #[.bool s', .int .i64 h', .int .i64 l']] w fun e w' => e = .returned (.int .i64 (-1)) ∧ Below w.heap.size w w' := by
  go_enter Tryz.func88, Tryz.ntmps88
  go_wp2_with fail
  refine (l1Addr_any _ _ _ _ _ _ hz _).mono ?_
  rintro e w1 ⟨rfl, hb1⟩
  obtain ⟨hc1, hf1⟩ := olds (n := w.heap.size + 2) (hb1.mono (by simp))
  have z1 : w.heap.size + 1 < w1.heap.size := by have := hb1.size; simp at this; omega
  have z0 : w.heap.size < w1.heap.size := by omega
  have b1 : Below w.heap.size w w1 := (((Below.refl _ w).alloc (Nat.le_refl _) _).alloc (by simp) _).trans (hb1.mono (by simp; omega))
  go_wp2_with fail
  refine (l1Addr_any _ _ _ _ _ _ hz' _).mono ?_
  rintro e w2 ⟨rfl, hb2⟩
  obtain ⟨hc2, hf2⟩ := olds (n := w.heap.size + 2) (hb2.mono (by simp; omega))
  have y1 : w.heap.size + 1 < w2.heap.size := by have := hb2.size; simp at this; omega
  have y0 : w.heap.size < w2.heap.size := by omega
  have b2 : Below w.heap.size w w2 := by
    refine Below.trans ?_ (hb2.mono (by simp; omega))
    repeat (first | with_reducible exact b1 | (with_reducible refine Below.setCell ?_ (by first | omega | (simp; done) | (simp; omega)) _))
  go_wp2_with fail
  refine (l1Less_any _ _ _).mono ?_
  rw [u1.out]
  rintro e w3 ⟨rfl, rfl⟩
  go_wp2_with fail
  refine (l1Less_any _ _ _).mono ?_
  rw [u2.out]
  rintro e w4 ⟨rfl, rfl⟩
  go_wp2_with fail
  go_ret
  refine ⟨rfl, ?_⟩
  repeat (first | with_reducible exact b2 | (with_reducible refine Below.setCell ?_ (by first | omega | (simp; done) | (simp; omega)) _))

set_option maxHeartbeats 1000000 in
theorem sCmp_gt2 (s : Bool) (h l : Int) (s' : Bool) (h' l' : Int) (S : Bool) (H L H' L' : Int) (hz : Nrm s h l S H L) (hz' : Nrm s' h' l' S H' L') (hq : ∀ wx, (Op.equalIn 10000 64 (.agg #[.bool S, .int .i64 H, .int .i64 L]) (.agg #[.bool S, .int .i64 H', .int .i64 L'])).run Tryz.prog wx = .ok false wx) (u1 : Hid (ult H H' = false)) (e1 : (H == H') = true) (u2 : Hid (ult L L' = false)) (w : World) :
    Calls Tryz.prog 88 #[.agg #[.bool s, .int .i64 h, .int .i64 l], .agg #[.bool s', .int .i64 h', .int .i64 l']] w fun e w' => e = .returned (.int .i64 (1)) ∧ Below w.heap.size w w' := by
  go_enter Tryz.func88, Tryz.ntmps88
  go_wp2_with fail
  refine (l1Addr_any _ _ _ _ _ _ hz _).mono ?_
  rintro e w1 ⟨rfl, hb1⟩
  obtain ⟨hc1, hf1⟩ := olds (n := w.heap.size + 2) (hb1.mono (by simp))
  have z1 : w.heap.size + 1 < w1.heap.size := by have := hb1.size; simp at this; omega
  have z0 : w.heap.size < w1.heap.size := by omega
  have b1 : Below w.heap.size w w1 := (((Below.refl _ w).alloc (Nat.le_refl _) _).alloc (by simp) _).trans (hb1.mono (by simp; omega))
  go_wp2_with fail
  refine (l1Addr_any _ _ _ _ _ _ hz' _).mono ?_
  rintro e w2 ⟨rfl, hb2⟩
  obtain ⟨hc2, hf2⟩ := olds (n := w.heap.size + 2) (hb2.mono (by simp; omega))
  have y1 : w.heap.size + 1 < w2.heap.size := by have := hb2.size; simp at this; omega
  have y0 : w.heap.size < w2.heap.size := by omega
  have b2 : Below w.heap.size w w2 := by
    refine Below.trans ?_ (hb2.mono (by simp; omega))
    repeat (first | with_reducible exact b1 | (with_reducible refine Below.setCell ?_ (by first | omega | (simp; done) | (simp; omega)) _))
  go_wp2_with fail
  refine (l1Less_any _ _ _).mono ?_
  rw [u1.out]
  rintro e w3 ⟨rfl, rfl⟩
  go_wp2_with fail
  refine (l1Less_any _ _ _).mono ?_
  rw [u2.out]
  rintro e w4 ⟨rfl, rfl⟩
  go_wp2_with fail
  go_ret
  refine ⟨rfl, ?_⟩
  repeat (first | with_reducible exact b2 | (with_reducible refine Below.setCell ?_ (by first | omega | (simp; done) | (simp; omega)) _))

set_option maxHeartbeats 1000000 in
theorem sCmp_gt1 (s : Bool) (h l : Int) (s' : Bool) (h' l' : Int) (S : Bool) (H L H' L' : Int) (hz : Nrm s h l S H L) (hz' : Nrm s' h' l' S H' L') (hq : ∀ wx, (Op.equalIn 10000 64 (.agg #[.bool S, .int .i64 H, .int .i64 L]) (.agg #[.bool S, .int .i64 H', .int .i64 L'])).run Tryz.prog wx = .ok false wx) (u1 : Hid (ult H H' = false)) (e1 : (H == H') = false) (w : World) :
    Calls Tryz.prog 88 #[.agg #[.bool s, .int .i64 h, .int .i64 l], .agg #[.bool s', .int .i64 h', .int .i64 l']] w fun e w' => e = .returned (.int .i64 (1)) ∧ Below w.heap.size w w' := by
  go_enter Tryz.func88, Tryz.ntmps88
  go_wp2_with fail
  refine (l1Addr_any _ _ _ _ _ _ hz _).mono ?_
  rintro e w1 ⟨rfl, hb1⟩
  obtain ⟨hc1, hf1⟩ := olds (n := w.heap.size + 2) (hb1.mono (by simp))
  have z1 : w.heap.size + 1 < w1.heap.size := by have := hb1.size; simp at this; omega
  have z0 : w.heap.size < w1.heap.size := by omega
  have b1 : Below w.heap.size w w1 := (((Below.refl _ w).alloc (Nat.le_refl _) _).alloc (by simp) _).trans (hb1.mono (by simp; omega))
  go_wp2_with fail
  refine (l1Addr_any _ _ _ _ _ _ hz' _).mono ?_
  rintro e w2 ⟨rfl, hb2⟩
  obtain ⟨hc2, hf2⟩ := olds (n := w.heap.size + 2) (hb2.mono (by simp; omega))
  have y1 : w.heap.size + 1 < w2.heap.size := by have := hb2.size; simp at this; omega
  have y0 : w.heap.size < w2.heap.size := by omega
  have b2 : Below w.heap.size w w2 := by
    refine Below.trans ?_ (hb2.mono (by simp; omega))
    repeat (first | with_reducible exact b1 | (with_reducible refine Below.setCell ?_ (by first | omega | (simp; done) | (simp; omega)) _))
  go_wp2_with fail
  refine (l1Less_any _ _ _).mono ?_
  rw [u1.out]
  rintro e w3 ⟨rfl, rfl⟩
  go_wp2_with fail
  go_ret
  refine ⟨rfl, ?_⟩
  repeat (first | with_reducible exact b2 | (with_reducible refine Below.setCell ?_ (by first | omega | (simp; done) | (simp; omega)) _))

end Go.Proofs.YtngcbhbcocnbeaaGreat
namespace Go.Proofs.YtngcbhbcocnbeaaGreat
open Go.ChangeShapes Go.WideShapes Go.ChangeAt Go.RowKit Go.Joins

theorem ult_t {a b : Int} (h : ult a b = true) : IntKind.u64.wrap a < IntKind.u64.wrap b := by simpa [ult] using h
theorem ult_f {a b : Int} (h : ult a b = false) : ¬ IntKind.u64.wrap a < IntKind.u64.wrap b := by simpa [ult] using h
theorem u64_inj {a b : Int} (ha : -9223372036854775808 ≤ a ∧ a ≤ 9223372036854775807) (hb : -9223372036854775808 ≤ b ∧ b ≤ 9223372036854775807) (h : IntKind.u64.wrap a = IntKind.u64.wrap b) : a = b := by
  rw [IntKind.wrap_u64, IntKind.wrap_u64] at h; omega

theorem cmp3_lt0 {a0 a1 a2 b0 b1 b2 : Int} (h : a0 < b0) : cmp3 a0 a1 a2 b0 b1 b2 = -1 := by simp [cmp3, cmpW, h]
theorem cmp3_gt0 {a0 a1 a2 b0 b1 b2 : Int} (h : b0 < a0) : cmp3 a0 a1 a2 b0 b1 b2 = 1 := by
  have : ¬ a0 < b0 := by omega
  simp [cmp3, cmpW, h, this]
theorem cmp3_lt1 {a a1 a2 b1 b2 : Int} (h : a1 < b1) : cmp3 a a1 a2 a b1 b2 = -1 := by simp [cmp3, cmpW, h]
theorem cmp3_gt1 {a a1 a2 b1 b2 : Int} (h : b1 < a1) : cmp3 a a1 a2 a b1 b2 = 1 := by
  have : ¬ a1 < b1 := by omega
  simp [cmp3, cmpW, h, this]
theorem cmp3_lt2 {a b a2 b2 : Int} (h : a2 < b2) : cmp3 a b a2 a b b2 = -1 := by simp [cmp3, cmpW, h]
theorem cmp3_gt2 {a b a2 b2 : Int} (h : b2 < a2) : cmp3 a b a2 a b b2 = 1 := by
  have : ¬ a2 < b2 := by omega
  simp [cmp3, cmpW, h, this]
theorem cmp3_eq (a b c : Int) : cmp3 a b c a b c = 0 := by simp [cmp3, cmpW]

theorem Rank_ex (S : Bool) (H L : Int) : ∃ r0 r1 r2, Rank S H L r0 r1 r2 ∧ (S = true → r0 = 1 ∧ r1 = IntKind.u64.wrap H) ∧ (S = false → r0 = 0 ∧ r1 = 0) ∧ r2 = IntKind.u64.wrap L := by
  cases S
  · exact ⟨0, 0, _, Or.inr ⟨rfl, rfl, rfl, rfl⟩, by simp, by simp, rfl⟩
  · exact ⟨1, _, _, Or.inl ⟨rfl, rfl, rfl, rfl⟩, by simp, by simp, rfl⟩

/-- A number of the kind int lies in its bounds. -/
theorem wf_bdC {x : Int} (h : (Lit.int .i64 x).wf = true) : -9223372036854775808 ≤ x ∧ x ≤ 9223372036854775807 := by
  simpa [Lit.wf, IntKind.min, IntKind.max, IntKind.signed, IntKind.bits] using h

end Go.Proofs.YtngcbhbcocnbeaaGreat
namespace Go.Proofs.YtngcbhbcocnbeaaGreat
open Go.RowKit

set_option maxHeartbeats 400000 in
theorem cmpInt_any (a b : Int) (w : World) :
    Calls Tryz.prog 146 #[.int .i64 a, .int .i64 b] w fun e w' => e = .returned (.int .i64 (cmpW a b)) ∧ w' = w := by
  by_cases h1 : a < b
  · have e : cmpW a b = -1 := by simp [cmpW, h1]
    rw [e]
    go_enter Tryz.func146, Tryz.ntmps146
    go_wp2
    go_ret
    exact ⟨rfl, rfl⟩
  · by_cases h2 : b < a
    · have e : cmpW a b = 1 := by simp [cmpW, h1, h2]
      rw [e]
      go_enter Tryz.func146, Tryz.ntmps146
      go_wp2
      go_ret
      exact ⟨rfl, rfl⟩
    · have e : cmpW a b = 0 := by simp [cmpW, h1, h2]
      rw [e]
      go_enter Tryz.func146, Tryz.ntmps146
      go_wp2
      go_ret
      exact ⟨rfl, rfl⟩

/-- the first that is not 0 -/
def orI (c d : Int) : Int := if (c != 0) = true then c else d
theorem orI_1 {c d : Int} (h : (c != 0) = true) : orI c d = c := by simp only [orI, h, if_true]
theorem orI_2 {c d : Int} (h : (c != 0) = false) : orI c d = d := by simp [orI, h]

/-- a number that is 0, said so that no walk looks in -/
def ZeroI (c : Int) : Prop := (c != 0) = false

set_option maxHeartbeats 1000000 in
theorem cmpOr_any (c d : Int) (p : Nat) (w : World) (x0 : w.cell? ⟨p, 0, none⟩ = some (.int .i64 c)) (x1 : w.cell? ⟨p, 1, none⟩ = some (.int .i64 d)) :
    Calls Tryz.prog 145 #[.slice (some ⟨p, 0, none⟩) 2 2] w fun e w' => e = .returned (.int .i64 (orI c d)) ∧ w' = w := by
  go_enter Tryz.func145, Tryz.ntmps145
  go_wp2
  go_loop [8] (fun i => i = .int .i64 0 ∨ (i = .int .i64 1 ∧ ZeroI c) ∨ (i = .int .i64 2 ∧ ZeroI c ∧ ZeroI d)) (fun i => 2 - (intOf i).toNat)
  case atStart => exact Or.inl rfl
  case round =>
    rcases hrel with rfl | ⟨rfl, k0⟩ | ⟨rfl, k0, k1⟩
    · cases hc : (c != 0)
      · go_wp2
        go_round
        case rel => exact Or.inr (Or.inl ⟨rfl, hc⟩)
        case measure => simp [intOf]
      · go_wp2
        go_ret
        exact ⟨ret_int (orI_1 hc).symm, rfl⟩
    · cases hc : (d != 0)
      · go_wp2
        go_round
        case rel => exact Or.inr (Or.inr ⟨rfl, k0, hc⟩)
        case measure => simp [intOf]
      · have HZ : Hid (orI c d = d) := orI_2 k0
        go_wp2
        go_ret
        exact ⟨ret_int HZ.out.symm, rfl⟩
    · have HZ : Hid (orI c d = 0) := (orI_2 k0).trans (by simpa [ZeroI] using k1)
      go_wp2
      go_ret
      exact ⟨ret_int HZ.out.symm, rfl⟩

end Go.Proofs.YtngcbhbcocnbeaaGreat
namespace Go.Proofs.YtngcbhbcocnbeaaGreat
open Go.RowKit

theorem eight_of_below' {W X : World} {n b c : Nat} {v0 v1 v2 v3 u0 u1 u2 u3 : Value} (hB : Below n W X) (hb : b < n) (hc : c < n)
    (k : W.cell? ⟨b, 0, none⟩ = some v0 ∧ W.cell? ⟨b, 1, none⟩ = some v1 ∧ W.cell? ⟨b, 2, none⟩ = some v2 ∧ W.cell? ⟨b, 3, none⟩ = some v3 ∧ W.cell? ⟨c, 0, none⟩ = some u0 ∧ W.cell? ⟨c, 1, none⟩ = some u1 ∧ W.cell? ⟨c, 2, none⟩ = some u2 ∧ W.cell? ⟨c, 3, none⟩ = some u3) :
    X.cell? ⟨b, 0, none⟩ = some v0 ∧ X.cell? ⟨b, 1, none⟩ = some v1 ∧ X.cell? ⟨b, 2, none⟩ = some v2 ∧ X.cell? ⟨b, 3, none⟩ = some v3 ∧ X.cell? ⟨c, 0, none⟩ = some u0 ∧ X.cell? ⟨c, 1, none⟩ = some u1 ∧ X.cell? ⟨c, 2, none⟩ = some u2 ∧ X.cell? ⟨c, 3, none⟩ = some u3 := by
  obtain ⟨k0, k1, k2, k3, k4, k5, k6, k7⟩ := k
  exact ⟨(hB.cell hb).trans k0, (hB.cell hb).trans k1, (hB.cell hb).trans k2, (hB.cell hb).trans k3, (hB.cell hc).trans k4, (hB.cell hc).trans k5, (hB.cell hc).trans k6, (hB.cell hc).trans k7⟩

set_option maxHeartbeats 1000000 in
theorem sCmpPrefix_any (s : Bool) (h l b : Int) (s' : Bool) (h' l' b' : Int) (c : Int) (hc : ∀ w : World, Calls Tryz.prog 88 #[.agg #[.bool s, .int .i64 h, .int .i64 l], .agg #[.bool s', .int .i64 h', .int .i64 l']] w fun e w' => e = .returned (.int .i64 c) ∧ Below w.heap.size w w') (w : World) :
    Calls Tryz.prog 82 #[.agg #[.bool s, .int .i64 h, .int .i64 l, .int .i64 b], .agg #[.bool s', .int .i64 h', .int .i64 l', .int .i64 b']] w fun e w' => e = .returned (.int .i64 (orI c (cmpW b b'))) ∧ Below w.heap.size w w' := by
  have HC : Hid (∀ w : World, _) := hc
  clear hc
  cases hz : (c != 0)
  · rw [orI_2 hz]
    by_cases h1 : b < b'
    · rw [show cmpW b b' = -1 by simp [cmpW, h1]]
      go_enter Tryz.func82, Tryz.ntmps82
      go_wp2_with fail
      refine (HC.out _).mono ?_
      rintro e w1 ⟨rfl, hb1⟩
      have hz1 := hb1.size
      try simp at hz1
      have f10 : w.heap.size < w1.heap.size := by omega
      have f11 : w.heap.size + 1 < w1.heap.size := by omega
      refine olds_k (w.heap.size + 2) hb1 ?_ ?_
      · first | omega | (simp; omega) | (simp; done)
      intro hc1 hf1
      go_wp2_with fail
      go_ret
      refine ⟨rfl, ?_⟩
      repeat (first | with_reducible exact Below.refl _ _ | (with_reducible refine Below.drew ?_) | (with_reducible refine Below.alloc ?_ ?_ _; rotate_left; (focus (first | omega | (simp; omega) | (simp; done)))) | (with_reducible refine Below.setCell ?_ ?_ _; rotate_left; (focus (first | omega | (simp; omega) | (simp; done)))) | (with_reducible refine Below.trans ?_ (hb1.mono ?_); rotate_left; (focus (first | omega | (simp; omega) | (simp; done)))))
    · by_cases h2 : b' < b
      · rw [show cmpW b b' = 1 by simp [cmpW, h1, h2]]
        go_enter Tryz.func82, Tryz.ntmps82
        go_wp2_with fail
        refine (HC.out _).mono ?_
        rintro e w1 ⟨rfl, hb1⟩
        have hz1 := hb1.size
        try simp at hz1
        have f10 : w.heap.size < w1.heap.size := by omega
        have f11 : w.heap.size + 1 < w1.heap.size := by omega
        refine olds_k (w.heap.size + 2) hb1 ?_ ?_
        · first | omega | (simp; omega) | (simp; done)
        intro hc1 hf1
        go_wp2_with fail
        go_ret
        refine ⟨rfl, ?_⟩
        repeat (first | with_reducible exact Below.refl _ _ | (with_reducible refine Below.drew ?_) | (with_reducible refine Below.alloc ?_ ?_ _; rotate_left; (focus (first | omega | (simp; omega) | (simp; done)))) | (with_reducible refine Below.setCell ?_ ?_ _; rotate_left; (focus (first | omega | (simp; omega) | (simp; done)))) | (with_reducible refine Below.trans ?_ (hb1.mono ?_); rotate_left; (focus (first | omega | (simp; omega) | (simp; done)))))
      · rw [show cmpW b b' = 0 by simp [cmpW, h1, h2]]
        go_enter Tryz.func82, Tryz.ntmps82
        go_wp2_with fail
        refine (HC.out _).mono ?_
        rintro e w1 ⟨rfl, hb1⟩
        have hz1 := hb1.size
        try simp at hz1
        have f10 : w.heap.size < w1.heap.size := by omega
        have f11 : w.heap.size + 1 < w1.heap.size := by omega
        refine olds_k (w.heap.size + 2) hb1 ?_ ?_
        · first | omega | (simp; omega) | (simp; done)
        intro hc1 hf1
        go_wp2_with fail
        go_ret
        refine ⟨rfl, ?_⟩
        repeat (first | with_reducible exact Below.refl _ _ | (with_reducible refine Below.drew ?_) | (with_reducible refine Below.alloc ?_ ?_ _; rotate_left; (focus (first | omega | (simp; omega) | (simp; done)))) | (with_reducible refine Below.setCell ?_ ?_ _; rotate_left; (focus (first | omega | (simp; omega) | (simp; done)))) | (with_reducible refine Below.trans ?_ (hb1.mono ?_); rotate_left; (focus (first | omega | (simp; omega) | (simp; done)))))
  · rw [orI_1 hz]
    go_enter Tryz.func82, Tryz.ntmps82
    go_wp2_with fail
    refine (HC.out _).mono ?_
    rintro e w1 ⟨rfl, hb1⟩
    have hz1 := hb1.size
    try simp at hz1
    have f10 : w.heap.size < w1.heap.size := by omega
    have f11 : w.heap.size + 1 < w1.heap.size := by omega
    refine olds_k (w.heap.size + 2) hb1 ?_ ?_
    · first | omega | (simp; omega) | (simp; done)
    intro hc1 hf1
    go_wp2_with fail
    go_ret
    refine ⟨rfl, ?_⟩
    repeat (first | with_reducible exact Below.refl _ _ | (with_reducible refine Below.drew ?_) | (with_reducible refine Below.alloc ?_ ?_ _; rotate_left; (focus (first | omega | (simp; omega) | (simp; done)))) | (with_reducible refine Below.setCell ?_ ?_ _; rotate_left; (focus (first | omega | (simp; omega) | (simp; done)))) | (with_reducible refine Below.trans ?_ (hb1.mono ?_); rotate_left; (focus (first | omega | (simp; omega) | (simp; done)))))

set_option maxHeartbeats 1000000 in
theorem iCmpPrefix_any (s : Bool) (h l b : Int) (s' : Bool) (h' l' b' : Int) (c : Int) (hc : ∀ w : World, Calls Tryz.prog 119 #[.agg #[.bool s, .int .i64 h, .int .i64 l], .agg #[.bool s', .int .i64 h', .int .i64 l']] w fun e w' => e = .returned (.int .i64 c) ∧ Below w.heap.size w w') (w : World) :
    Calls Tryz.prog 131 #[.agg #[.bool s, .int .i64 h, .int .i64 l, .int .i64 b], .agg #[.bool s', .int .i64 h', .int .i64 l', .int .i64 b']] w fun e w' => e = .returned (.int .i64 (orI c (cmpW b b'))) ∧ Below w.heap.size w w' := by
  have HC : Hid (∀ w : World, _) := hc
  clear hc
  go_enter Tryz.func131, Tryz.ntmps131
  go_wp2_with fail
  go_region_held3 (fun x => x.cell? ⟨w.heap.size, 0, none⟩ = some (.bool s) ∧ x.cell? ⟨w.heap.size, 1, none⟩ = some (.int .i64 h) ∧ x.cell? ⟨w.heap.size, 2, none⟩ = some (.int .i64 l) ∧ x.cell? ⟨w.heap.size, 3, none⟩ = some (.int .i64 b) ∧ x.cell? ⟨w.heap.size + 1, 0, none⟩ = some (.bool s') ∧ x.cell? ⟨w.heap.size + 1, 1, none⟩ = some (.int .i64 h') ∧ x.cell? ⟨w.heap.size + 1, 2, none⟩ = some (.int .i64 l') ∧ x.cell? ⟨w.heap.size + 1, 3, none⟩ = some (.int .i64 b')) ((refine eight_of_below' (W := (w.alloc (.cells #[.bool s, .int .i64 h, .int .i64 l, .int .i64 b] 66)).alloc (.cells #[.bool s', .int .i64 h', .int .i64 l', .int .i64 b'] 66)) (n := w.heap.size + 2) ?_ (by omega) (by omega) ⟨by simp [go_sem], by simp [go_sem], by simp [go_sem], by simp [go_sem], by simp [go_sem], by simp [go_sem], by simp [go_sem], by simp [go_sem]⟩; repeat (first | with_reducible exact Below.refl _ _ | (with_reducible refine Below.drew ?_) | (with_reducible refine Below.alloc ?_ ?_ _; rotate_left; (focus (first | omega | (simp; omega) | (simp; done)))) | (with_reducible refine Below.setCell ?_ ?_ _; rotate_left; (focus (first | omega | (simp; omega) | (simp; done)))) | (with_reducible refine Below.trans ?_ (hb1.mono ?_); rotate_left; (focus (first | omega | (simp; omega) | (simp; done))))))) (first | (go_at_call 119; refine (HC.out _).mono ?_; rintro e w1 ⟨rfl, hb1⟩; have hz1 := hb1.size; (try simp at hz1); (first | (refine ltk (w.heap.size) (w1.heap.size) ?_ ?_; (focus omega); intro f10) | skip); (first | (refine ltk (w.heap.size + 1) (w1.heap.size) ?_ ?_; (focus omega); intro f11) | skip); (refine olds_k (w.heap.size + 2) hb1 ?_ ?_; (focus (first | omega | (simp; omega) | (simp; done))); intro hc1 hf1)) | (go_at_call 146; refine (cmpInt_any b b' _).mono ?_; rintro e w2 ⟨rfl, rfl⟩) | (go_at_call 145; refine (cmpOr_any c (cmpW b b') _ _ ?_ ?_).mono ?_; (focus (simp [go_sem])); (focus (simp [go_sem])); rintro e w3 ⟨rfl, rfl⟩))
  all_goals
    go_wp2_with fail
    go_ret
    refine ⟨rfl, ?_⟩
    repeat (first | with_reducible exact Below.refl _ _ | (with_reducible refine Below.drew ?_) | (with_reducible refine Below.alloc ?_ ?_ _; rotate_left; (focus (first | omega | (simp; omega) | (simp; done)))) | (with_reducible refine Below.setCell ?_ ?_ _; rotate_left; (focus (first | omega | (simp; omega) | (simp; done)))) | (with_reducible refine Below.trans ?_ (hb1.mono ?_); rotate_left; (focus (first | omega | (simp; omega) | (simp; done)))))

end Go.Proofs.YtngcbhbcocnbeaaGreat
namespace Go.Proofs.YtngcbhbcocnbeaaGreat
open Go.RowKit

def ml (n : Nat) : BitVec 64 := if 64 ≤ n then BitVec.allOnes 64 else BitVec.ofNat 64 (2 ^ n - 1)
def mh (n : Nat) : BitVec 64 := ml (n - 64)
def hg (b : Int) : BitVec 64 := if b ≤ 0 then 0 else if 64 ≤ b then BitVec.allOnes 64 else BitVec.allOnes 64 <<< (64 - b).toNat

theorem wrapI (r : BitVec 64) : IntKind.wrap .i64 (r.toNat : Int) = r.toInt := by
  have h := r.isLt
  simp [IntKind.wrap, IntKind.bits, IntKind.signed, BitVec.toInt_eq_toNat_cond]
  omega
theorem wrapU (r : BitVec 64) : IntKind.wrap .u64 (r.toInt) = (r.toNat : Int) := by
  have h := r.isLt
  simp [IntKind.wrap, IntKind.bits, IntKind.signed, BitVec.toInt_eq_toNat_cond]
  split <;> omega
theorem wrapUn (r : BitVec 64) : IntKind.wrap .u64 (r.toNat) = (r.toNat : Int) := by
  have h := r.isLt
  simp [IntKind.wrap, IntKind.bits, IntKind.signed]
  omega
theorem ofN (r : BitVec 64) : BitVec.ofInt 64 (r.toNat : Int) = r := by simp
theorem ofI (r : BitVec 64) : BitVec.ofInt 64 r.toInt = r := by simp

theorem w64 (x : Int) : wrap64 x = IntKind.i64.wrap x := by rw [IntKind.wrap_i64, wrap64]

theorem bAN (H M : BitVec 64) : bits .andNot .i64 H.toInt M.toInt = (H &&& ~~~ M).toInt := by
  show IntKind.i64.wrap ((BitVec.ofInt 64 H.toInt &&& ~~~ BitVec.ofInt 64 M.toInt).toNat : Int) = _
  rw [ofI, ofI, wrapI]
theorem bAnd (H M : BitVec 64) : bits .and .i64 H.toInt M.toInt = (H &&& M).toInt := by
  show IntKind.i64.wrap ((BitVec.ofInt 64 H.toInt &&& BitVec.ofInt 64 M.toInt).toNat : Int) = _
  rw [ofI, ofI, wrapI]
theorem bAndU (H M : BitVec 64) : bits .and .u64 H.toNat M.toNat = (H &&& M).toNat := by
  show IntKind.u64.wrap ((BitVec.ofInt 64 H.toNat &&& BitVec.ofInt 64 M.toNat).toNat : Int) = _
  rw [ofN, ofN, wrapUn]
theorem hg_sh (b : Int) (h : 0 < b) (h1 : b < 64) : IntKind.wrap .u64 (18446744073709551615 * 2 ^ min (64 - b).toNat 64) = (hg b).toNat := by
  have : ∀ k : Fin 64, 0 < k.val → IntKind.wrap .u64 (18446744073709551615 * 2 ^ min (64 - (k.val : Int)).toNat 64) = (hg (k.val : Int)).toNat := by decide
  have := this ⟨b.toNat, by omega⟩ (by simp; omega)
  simpa [Int.toNat_of_nonneg (Int.le_of_lt h)] using this
theorem hg_hi (n : Nat) (h : n ≤ 128) : hg (128 - (n : Int)) = ~~~ mh n := by
  have : ∀ k : Fin 129, hg (128 - (k.val : Int)) = ~~~ mh k.val := by decide
  exact this ⟨n, by omega⟩
theorem hg_lo (n : Nat) (h : n ≤ 128) : hg (128 - (n : Int) - 64) = ~~~ ml n := by
  have : ∀ k : Fin 129, hg (128 - (k.val : Int) - 64) = ~~~ ml k.val := by decide
  exact this ⟨n, by omega⟩
theorem hg_32 (n : Nat) (h : n ≤ 32) : 0xFFFFFFFF#64 &&& ~~~ ml n = hg (32 - (n : Int)) >>> 32 := by
  have : ∀ k : Fin 33, 0xFFFFFFFF#64 &&& ~~~ ml k.val = hg (32 - (k.val : Int)) >>> 32 := by decide
  exact this ⟨n, by omega⟩
theorem low32 (L : BitVec 64) (h : L.toNat < 4294967296) : L = L &&& 0xFFFFFFFF#64 := by
  apply BitVec.eq_of_toNat_eq
  rw [BitVec.toNat_and]
  have := Nat.and_two_pow_sub_one_eq_mod L.toNat 32
  simp at this ⊢
  omega
theorem msk32 (L : BitVec 64) (h : L.toNat < 4294967296) (n : Nat) (hn : n ≤ 32) : L &&& (hg (32 - (n : Int)) >>> 32) = L &&& ~~~ ml n := by
  rw [← hg_32 n hn, ← BitVec.and_assoc, ← low32 L h]
theorem shr32 (r : BitVec 64) : ((r.toNat : Int).fdiv (2 ^ 32)) = ((r >>> 32).toNat : Int) := by
  simp [BitVec.toNat_ushiftRight, Nat.shiftRight_eq_div_pow]
  rw [Int.fdiv_eq_ediv_of_nonneg _ (by decide)]
theorem ml_bit (n i : Nat) : (ml n).getLsbD i = (decide (i < 64) && decide (i < n)) := by
  unfold ml
  split
  · rw [BitVec.getLsbD_allOnes]
    by_cases a : i < 64
    · simp only [a, decide_true, Bool.true_and]
      exact (decide_eq_true (by omega)).symm
    · simp only [a, decide_false, Bool.false_and]
  · rw [BitVec.getLsbD_ofNat, Nat.testBit_two_pow_sub_one]
theorem mh_bit (n i : Nat) : (mh n).getLsbD i = (decide (i < 64) && decide (i + 64 < n)) := by
  rw [mh, ml_bit]
  congr 1
  exact decide_eq_decide.mpr (by omega)

/-- cleared and filled -/
def cH (n : Nat) (H : BitVec 64) := H &&& ~~~ mh n
def cL (n : Nat) (L : BitVec 64) := L &&& ~~~ ml n
def fL (n : Nat) (L : BitVec 64) := L ||| ml n

end Go.Proofs.YtngcbhbcocnbeaaGreat
namespace Go.Proofs.YtngcbhbcocnbeaaGreat
open Go.RowKit

def wd (s : Bool) : Nat := if s then 128 else 32

set_option maxHeartbeats 400000 in
theorem width_any (s : Bool) (h l : Int) (w : World) :
    Calls Tryz.prog 130 #[.agg #[.bool s, .int .i64 h, .int .i64 l]] w fun e w' => e = .returned (.int .i64 (wd s)) ∧ Below w.heap.size w w' := by
  cases s <;>
  · go_enter Tryz.func130, Tryz.ntmps130
    go_wp2
    go_ret
    exact ⟨rfl, (Below.refl _ _).alloc (Nat.le_refl _) _⟩

theorem loX (n : Nat) (h : n ≤ 128) : wrap64 (IntKind.u64.wrap (IntKind.u64.wrap (2 ^ min n 64) - 1)) = (ml n).toInt := by
  have : ∀ k : Fin 129, IntKind.i64.wrap (IntKind.u64.wrap (IntKind.u64.wrap (2 ^ min k.val 64) - 1)) = (ml k.val).toInt := by decide
  rw [w64]
  exact this ⟨n, by omega⟩
theorem hiX (n : Nat) (h : n ≤ 128) (h0 : 0 ≤ (n : Int) - 64) : wrap64 (IntKind.u64.wrap (IntKind.u64.wrap (2 ^ ((n : Int) - 64).toNat) - 1)) = (mh n).toInt := by
  have : ∀ k : Fin 129, IntKind.i64.wrap (IntKind.u64.wrap (IntKind.u64.wrap (2 ^ ((k.val : Int) - 64).toNat) - 1)) = (mh k.val).toInt := by decide
  rw [w64]
  exact this ⟨n, by omega⟩
theorem hiY (n : Nat) (h0 : (n : Int) - 64 < 0) : wrap64 (IntKind.u64.wrap (IntKind.u64.wrap 1 - 1)) = (mh n).toInt := by
  have : ∀ k : Fin 64, IntKind.i64.wrap (IntKind.u64.wrap (IntKind.u64.wrap 1 - 1)) = (mh k.val).toInt := by decide
  rw [w64]
  exact this ⟨n, by omega⟩

set_option maxHeartbeats 400000 in
theorem lastBits_any (n : Nat) (hn : n ≤ 128) (w : World) :
    Calls Tryz.prog 171 #[.int .i64 n] w fun e w' => e = .returned (.tuple #[.int .i64 (mh n).toInt, .int .i64 (ml n).toInt]) ∧ Below w.heap.size w w' := by
  go_enter Tryz.func171, Tryz.ntmps171
  go_wp2
  · exact bodyPost_ret (v := .tuple #[.int .i64 (mh n).toInt, .int .i64 (ml n).toInt]) (by simp [results, Tryz.results171, go_sem, loX n hn, hiY n (by assumption)]) rfl ⟨rfl, Below.refl _ _⟩
  · exact bodyPost_ret (v := .tuple #[.int .i64 (mh n).toInt, .int .i64 (ml n).toInt]) (by simp [results, Tryz.results171, go_sem, loX n hn, hiX n hn (by assumption)]) rfl ⟨rfl, Below.refl _ _⟩

set_option maxHeartbeats 400000 in
theorem cleared_any (s : Bool) (H L : BitVec 64) (n : Nat) (hn : n ≤ 128) (w : World) :
    Calls Tryz.prog 163 #[.agg #[.bool s, .int .i64 H.toInt, .int .i64 L.toInt], .int .i64 n] w fun e w' => e = .returned (.agg #[.bool s, .int .i64 (cH n H).toInt, .int .i64 (cL n L).toInt]) ∧ Below w.heap.size w w' := by
  go_enter Tryz.func163, Tryz.ntmps163
  go_wp2_with fail
  refine (lastBits_any n hn _).mono ?_
  rintro e w1 ⟨rfl, hb⟩
  obtain ⟨hc, hf⟩ := olds (n := w.heap.size + 2) (hb.mono (by simp))
  have hz1 : w.heap.size + 1 < w1.heap.size := by have := hb.size; simp at this; omega
  have hz0 : w.heap.size < w1.heap.size := by omega
  have b1 : Below w.heap.size w w1 := (((Below.refl _ w).alloc (Nat.le_refl _) _).alloc (by simp) _).trans (hb.mono (by simp; omega))
  go_wp2
  refine bodyPost_ret (v := .agg #[.bool s, .int .i64 (cH n H).toInt, .int .i64 (cL n L).toInt]) (by simp [results, Tryz.results163, go_sem, hc, bAN, cH, cL]) rfl ⟨rfl, ?_⟩
  repeat (first | with_reducible exact b1 | (with_reducible refine Below.setCell ?_ (by first | omega | (simp; done) | (simp; omega)) _) | (with_reducible refine Below.alloc ?_ (by first | omega | (simp; done) | (simp; omega)) _))

end Go.Proofs.YtngcbhbcocnbeaaGreat
namespace Go.Proofs.YtngcbhbcocnbeaaGreat
open Go.RowKit

/-- '==' on two addresses, and on two spans. -/
theorem eqAd (a : Bool) (b c : Int) (d : Bool) (e f : Int) (w : World) : (Op.equalIn 10000 64 (.agg #[.bool a, .int .i64 b, .int .i64 c]) (.agg #[.bool d, .int .i64 e, .int .i64 f])).run Tryz.prog w = .ok (a == d && (b == e && c == f)) w := by
  have u3 := Tryz.underlying3
  have a3 := Tryz.isAgg3
  have z3 := Tryz.sizeOf3
  have u4 := Tryz.underlying4
  have a4 := Tryz.isAgg4
  have z4 := Tryz.sizeOf4
  have hS : Tryz.prog.underlying 64 = some (.struct (Tryz.prog.fieldsOf 64)) := by kernel_rfl
  have hp : Tryz.prog.stoodInHeld 64 = false := by kernel_rfl
  rw [show (10000 : Nat) = 9999 + 1 from rfl, run_equalIn_agg w 9999 64 _ _ hS hp]
  simp only [Program.fieldsOf, Tryz.underlying64]
  go_simp
  by_cases h1 : a = d <;> by_cases h2 : b = e <;> by_cases h3 : c = f <;> simp [h1, h2, h3]

theorem beqI (x y : BitVec 64) : (x.toInt == y.toInt) = (x == y) := by
  rw [Bool.eq_iff_iff, beq_iff_eq, beq_iff_eq, BitVec.toInt_inj]

/-- whether the span (s, H, L) of size n has the address (s', H', L') -/
def hasB (s : Bool) (H L : BitVec 64) (n : Nat) (s' : Bool) (H' L' : BitVec 64) : Bool := s' == s && (cH n H' == H && cL n L' == L)

theorem hasEq (s : Bool) (H L : BitVec 64) (n : Nat) (s' : Bool) (H' L' : BitVec 64) (wx : World) : (Op.equalIn 10000 64 (.agg #[.bool s', .int .i64 (cH n H').toInt, .int .i64 (cL n L').toInt]) (.agg #[.bool s, .int .i64 H.toInt, .int .i64 L.toInt])).run Tryz.prog wx = .ok (hasB s H L n s' H' L') wx := by
  rw [eqAd, beqI, beqI]; rfl

set_option maxHeartbeats 1000000 in
theorem has_any (s : Bool) (H L : BitVec 64) (n : Nat) (hn : n ≤ 128) (s' : Bool) (H' L' : BitVec 64) (w : World) :
    Calls Tryz.prog 144 #[.agg #[.bool s, .int .i64 H.toInt, .int .i64 L.toInt, .int .i64 n], .agg #[.bool s', .int .i64 H'.toInt, .int .i64 L'.toInt]] w fun e w' => e = .returned (.bool (hasB s H L n s' H' L')) ∧ Below w.heap.size w w' := by
  have hq := hasEq s H L n s' H' L'
  go_enter Tryz.func144, Tryz.ntmps144
  go_wp2_with fail
  go_region_with ((go_at_call 163; refine (cleared_any s' H' L' n hn _).mono ?_; rintro e w1 ⟨rfl, hb1⟩; have hz1 := hb1.size; (try simp at hz1); (first | (refine ltk (w.heap.size) (w1.heap.size) ?_ ?_; (focus omega); intro f10) | skip); (first | (refine ltk (w.heap.size + 1) (w1.heap.size) ?_ ?_; (focus omega); intro f11) | skip); (refine olds_k (w.heap.size + 2) hb1 ?_ ?_; (focus (first | omega | (simp; omega) | (simp; done))); intro hc1 hf1)))
  all_goals
    go_wp2_with fail
    go_ret
    refine ⟨rfl, ?_⟩
    repeat (first | with_reducible exact Below.refl _ _ | (with_reducible refine Below.drew ?_) | (with_reducible refine Below.alloc ?_ ?_ _; rotate_left; (focus (first | omega | (simp; omega) | (simp; done)))) | (with_reducible refine Below.setCell ?_ ?_ _; rotate_left; (focus (first | omega | (simp; omega) | (simp; done)))) | (with_reducible refine Below.trans ?_ (hb1.mono ?_); rotate_left; (focus (first | omega | (simp; omega) | (simp; done)))))

end Go.Proofs.YtngcbhbcocnbeaaGreat
namespace Go.Proofs.YtngcbhbcocnbeaaGreat
open Go.RowKit

theorem wd_le' (s : Bool) : wd s ≤ 128 := by cases s <;> decide

set_option maxHeartbeats 1000000 in
theorem spanOf_bad (s : Bool) (H L : BitVec 64) (b : Int) (hok : okB s H.toInt L.toInt = false) (w : World) :
    Calls Tryz.prog 143 #[.agg #[.bool s, .int .i64 H.toInt, .int .i64 L.toInt, .int .i64 b]] w fun e w' => e = .returned (.tuple #[.agg #[.bool false, .int .i64 0, .int .i64 0, .int .i64 0], .bool false]) ∧ Below w.heap.size w w' := by
  have HK : Hid (∀ w, _) := iAddrOk_any s H.toInt L.toInt
  rw [hok] at HK
  clear hok
  go_enter Tryz.func143, Tryz.ntmps143
  go_wp2_with fail
  first | (go_region_with ((go_at_call 100; refine (HK.out _).mono ?_; rintro e w1 ⟨rfl, hb1⟩; have hz1 := hb1.size; (try simp at hz1); (first | (refine ltk (w.heap.size) (w1.heap.size) ?_ ?_; (focus omega); intro f10) | skip); (first | (refine ltk (w.heap.size + 1) (w1.heap.size) ?_ ?_; (focus omega); intro f11) | skip); (first | (refine ltk (w.heap.size + 2) (w1.heap.size) ?_ ?_; (focus omega); intro f12) | skip); (refine olds_k (w.heap.size + 3) hb1 ?_ ?_; (focus (first | omega | (simp; omega) | (simp; done))); intro hc1 hf1)))) | fail
  all_goals
    go_wp2_with fail
    refine bodyPost_ret (v := .tuple #[.agg #[.bool false, .int .i64 0, .int .i64 0, .int .i64 0], .bool false]) (by simp [results, Tryz.results143, go_sem, hc1]) rfl ⟨rfl, ?_⟩
    repeat (first | with_reducible exact Below.refl _ _ | (with_reducible refine Below.drew ?_) | (with_reducible refine Below.alloc ?_ ?_ _; rotate_left; (focus (first | omega | (simp; omega) | (simp; done)))) | (with_reducible refine Below.setCell ?_ ?_ _; rotate_left; (focus (first | omega | (simp; omega) | (simp; done)))) | (with_reducible refine Below.trans ?_ (hb1.mono ?_); rotate_left; (focus (first | omega | (simp; omega) | (simp; done)))))

set_option maxHeartbeats 1000000 in
theorem spanOf_neg (s : Bool) (H L : BitVec 64) (b : Int) (hok : okB s H.toInt L.toInt = true) (hb : b < 0) (w : World) :
    Calls Tryz.prog 143 #[.agg #[.bool s, .int .i64 H.toInt, .int .i64 L.toInt, .int .i64 b]] w fun e w' => e = .returned (.tuple #[.agg #[.bool false, .int .i64 0, .int .i64 0, .int .i64 0], .bool false]) ∧ Below w.heap.size w w' := by
  have HK : Hid (∀ w, _) := iAddrOk_any s H.toInt L.toInt
  rw [hok] at HK
  clear hok
  go_enter Tryz.func143, Tryz.ntmps143
  go_wp2_with fail
  first | (go_region_with ((go_at_call 100; refine (HK.out _).mono ?_; rintro e w1 ⟨rfl, hb1⟩; have hz1 := hb1.size; (try simp at hz1); (first | (refine ltk (w.heap.size) (w1.heap.size) ?_ ?_; (focus omega); intro f10) | skip); (first | (refine ltk (w.heap.size + 1) (w1.heap.size) ?_ ?_; (focus omega); intro f11) | skip); (first | (refine ltk (w.heap.size + 2) (w1.heap.size) ?_ ?_; (focus omega); intro f12) | skip); (refine olds_k (w.heap.size + 3) hb1 ?_ ?_; (focus (first | omega | (simp; omega) | (simp; done))); intro hc1 hf1)))) | fail
  all_goals
    go_wp2_with fail
    refine bodyPost_ret (v := .tuple #[.agg #[.bool false, .int .i64 0, .int .i64 0, .int .i64 0], .bool false]) (by simp [results, Tryz.results143, go_sem, hc1]) rfl ⟨rfl, ?_⟩
    repeat (first | with_reducible exact Below.refl _ _ | (with_reducible refine Below.drew ?_) | (with_reducible refine Below.alloc ?_ ?_ _; rotate_left; (focus (first | omega | (simp; omega) | (simp; done)))) | (with_reducible refine Below.setCell ?_ ?_ _; rotate_left; (focus (first | omega | (simp; omega) | (simp; done)))) | (with_reducible refine Below.trans ?_ (hb1.mono ?_); rotate_left; (focus (first | omega | (simp; omega) | (simp; done)))))

set_option maxHeartbeats 1000000 in
theorem spanOf_big (s : Bool) (H L : BitVec 64) (b : Int) (hok : okB s H.toInt L.toInt = true) (hb : 0 ≤ b) (hg : (wd s : Int) < b) (w : World) :
    Calls Tryz.prog 143 #[.agg #[.bool s, .int .i64 H.toInt, .int .i64 L.toInt, .int .i64 b]] w fun e w' => e = .returned (.tuple #[.agg #[.bool false, .int .i64 0, .int .i64 0, .int .i64 0], .bool false]) ∧ Below w.heap.size w w' := by
  have HK : Hid (∀ w, _) := iAddrOk_any s H.toInt L.toInt
  rw [hok] at HK
  clear hok
  go_enter Tryz.func143, Tryz.ntmps143
  go_wp2_with fail
  first | (go_region_with (first | (go_at_call 100; refine (HK.out _).mono ?_; rintro e w1 ⟨rfl, hb1⟩; have hz1 := hb1.size; (try simp at hz1); (first | (refine ltk (w.heap.size) (w1.heap.size) ?_ ?_; (focus omega); intro f10) | skip); (first | (refine ltk (w.heap.size + 1) (w1.heap.size) ?_ ?_; (focus omega); intro f11) | skip); (first | (refine ltk (w.heap.size + 2) (w1.heap.size) ?_ ?_; (focus omega); intro f12) | skip); (refine olds_k (w.heap.size + 3) hb1 ?_ ?_; (focus (first | omega | (simp; omega) | (simp; done))); intro hc1 hf1)) | (go_at_call 130; refine (width_any s H.toInt L.toInt _).mono ?_; rintro e w2 ⟨rfl, hb2⟩; have hz2 := hb2.size; (try simp at hz2); (first | (refine ltk (w.heap.size) (w2.heap.size) ?_ ?_; (focus omega); intro f20) | skip); (first | (refine ltk (w.heap.size + 1) (w2.heap.size) ?_ ?_; (focus omega); intro f21) | skip); (first | (refine ltk (w.heap.size + 2) (w2.heap.size) ?_ ?_; (focus omega); intro f22) | skip); (refine olds_k (w.heap.size + 3) hb2 ?_ ?_; (focus (first | omega | (simp; omega) | (simp; done))); intro hc2 hf2)))) | fail
  all_goals
    go_wp2_with fail
    refine bodyPost_ret (v := .tuple #[.agg #[.bool false, .int .i64 0, .int .i64 0, .int .i64 0], .bool false]) (by simp [results, Tryz.results143, go_sem, hc1, hc2]) rfl ⟨rfl, ?_⟩
    repeat (first | with_reducible exact Below.refl _ _ | (with_reducible refine Below.drew ?_) | (with_reducible refine Below.alloc ?_ ?_ _; rotate_left; (focus (first | omega | (simp; omega) | (simp; done)))) | (with_reducible refine Below.setCell ?_ ?_ _; rotate_left; (focus (first | omega | (simp; omega) | (simp; done)))) | (with_reducible refine Below.trans ?_ (hb2.mono ?_); rotate_left; (focus (first | omega | (simp; omega) | (simp; done)))) | (with_reducible refine Below.trans ?_ (hb1.mono ?_); rotate_left; (focus (first | omega | (simp; omega) | (simp; done)))))

end Go.Proofs.YtngcbhbcocnbeaaGreat
namespace Go.Proofs.YtngcbhbcocnbeaaGreat
open Go.RowKit

set_option maxHeartbeats 1000000 in
theorem spanOf_ok (s : Bool) (H L : BitVec 64) (b : Int) (n : Nat) (hn : n ≤ 128) (hok : okB s H.toInt L.toInt = true) (hb0 : 0 ≤ b) (hbw : b ≤ (wd s : Int)) (hsub : IntKind.i64.wrap ((wd s : Int) - b) = (n : Int)) (hh : hasB s H L n s H L = true) (w : World) :
    Calls Tryz.prog 143 #[.agg #[.bool s, .int .i64 H.toInt, .int .i64 L.toInt, .int .i64 b]] w fun e w' => e = .returned (.tuple #[.agg #[.bool s, .int .i64 H.toInt, .int .i64 L.toInt, .int .i64 n], .bool true]) ∧ Below w.heap.size w w' := by
  have HH : Hid (∀ w, _) := has_any s H L n hn s H L
  rw [hh] at HH
  clear hh
  have HK : Hid (∀ w, _) := iAddrOk_any s H.toInt L.toInt
  rw [hok] at HK
  clear hok
  have d1 : decide (b < 0) = false := decide_eq_false (by omega)
  have d2 : decide ((wd s : Int) < b) = false := decide_eq_false (by omega)
  go_enter Tryz.func143, Tryz.ntmps143
  go_upto_region 2 with fail
  go_cut [24] (fun t24 wc => t24 = .bool false ∧ Below (w.heap.size + 3) (((w.alloc (.cells #[.bool s, .int .i64 H.toInt, .int .i64 L.toInt, .int .i64 b] 66)).alloc (.cells #[.bool false, .int .i64 0, .int .i64 0, .int .i64 0] 190)).alloc (.cells #[.bool s, .int .i64 H.toInt, .int .i64 L.toInt, .int .i64 0] 190)) wc ∧ Below w.heap.size w wc)
  case first =>
    first | (go_region_with (first | (go_at_call 100; refine (HK.out _).mono ?_; rintro e w1 ⟨rfl, hb1⟩; have hz1 := hb1.size; (try simp at hz1); (first | (refine ltk (w.heap.size) (w1.heap.size) ?_ ?_; (focus omega); intro f10) | skip); (first | (refine ltk (w.heap.size + 1) (w1.heap.size) ?_ ?_; (focus omega); intro f11) | skip); (first | (refine ltk (w.heap.size + 2) (w1.heap.size) ?_ ?_; (focus omega); intro f12) | skip); (refine olds_k (w.heap.size + 3) hb1 ?_ ?_; (focus (first | omega | (simp; omega) | (simp; done))); intro hc1 hf1)) | (go_at_call 130; refine (width_any s H.toInt L.toInt _).mono ?_; rintro e w2 ⟨rfl, hb2⟩; have hz2 := hb2.size; (try simp at hz2); (first | (refine ltk (w.heap.size) (w2.heap.size) ?_ ?_; (focus omega); intro f20) | skip); (first | (refine ltk (w.heap.size + 1) (w2.heap.size) ?_ ?_; (focus omega); intro f21) | skip); (first | (refine ltk (w.heap.size + 2) (w2.heap.size) ?_ ?_; (focus omega); intro f22) | skip); (refine olds_k (w.heap.size + 3) hb2 ?_ ?_; (focus (first | omega | (simp; omega) | (simp; done))); intro hc2 hf2)))) | fail
    all_goals
      go_wp2_with fail
      go_meet
      refine ⟨rfl, ?_, ?_⟩
      · repeat (first | with_reducible exact Below.refl _ _ | (with_reducible refine Below.drew ?_) | (with_reducible refine Below.alloc ?_ ?_ _; rotate_left; (focus (first | omega | (simp; omega) | (simp; done)))) | (with_reducible refine Below.setCell ?_ ?_ _; rotate_left; (focus (first | omega | (simp; omega) | (simp; done)))) | (with_reducible refine Below.trans ?_ (hb2.mono ?_); rotate_left; (focus (first | omega | (simp; omega) | (simp; done)))) | (with_reducible refine Below.trans ?_ (hb1.mono ?_); rotate_left; (focus (first | omega | (simp; omega) | (simp; done)))))
      · repeat (first | with_reducible exact Below.refl _ _ | (with_reducible refine Below.drew ?_) | (with_reducible refine Below.alloc ?_ ?_ _; rotate_left; (focus (first | omega | (simp; omega) | (simp; done)))) | (with_reducible refine Below.setCell ?_ ?_ _; rotate_left; (focus (first | omega | (simp; omega) | (simp; done)))) | (with_reducible refine Below.trans ?_ (hb2.mono ?_); rotate_left; (focus (first | omega | (simp; omega) | (simp; done)))) | (with_reducible refine Below.trans ?_ (hb1.mono ?_); rotate_left; (focus (first | omega | (simp; omega) | (simp; done)))))
  case rest =>
    obtain ⟨rfl, hB, hW⟩ := hcut
    rename_i wc
    have hzc := hB.size
    simp at hzc
    have y0 : w.heap.size < wc.heap.size := by omega
    have y1 : w.heap.size + 1 < wc.heap.size := by omega
    have y2 : w.heap.size + 2 < wc.heap.size := by omega
    obtain ⟨hc, hf⟩ := olds hB
    go_upto_region 4 with fail
    go_cut [] (fun wd4 => w.heap.size + 2 < wd4.heap.size ∧ wd4.cell? ⟨w.heap.size, 0, none⟩ = some (.bool s) ∧ wd4.cell? ⟨w.heap.size, 1, none⟩ = some (.int .i64 H.toInt) ∧ wd4.cell? ⟨w.heap.size, 2, none⟩ = some (.int .i64 L.toInt) ∧ wd4.cell? ⟨w.heap.size + 2, 0, none⟩ = some (.bool s) ∧ wd4.cell? ⟨w.heap.size + 2, 1, none⟩ = some (.int .i64 H.toInt) ∧ wd4.cell? ⟨w.heap.size + 2, 2, none⟩ = some (.int .i64 L.toInt) ∧ wd4.cell? ⟨w.heap.size + 2, 3, none⟩ = some (.int .i64 n) ∧ wd4.cell? ⟨w.heap.size + 1, 0, none⟩ = some (.bool false) ∧ wd4.cell? ⟨w.heap.size + 1, 1, none⟩ = some (.int .i64 0) ∧ wd4.cell? ⟨w.heap.size + 1, 2, none⟩ = some (.int .i64 0) ∧ wd4.cell? ⟨w.heap.size + 1, 3, none⟩ = some (.int .i64 0) ∧ wd4.frozen? ⟨w.heap.size + 1, 0, none⟩ = false ∧ wd4.frozen? ⟨w.heap.size + 1, 1, none⟩ = false ∧ wd4.frozen? ⟨w.heap.size + 1, 2, none⟩ = false ∧ wd4.frozen? ⟨w.heap.size + 1, 3, none⟩ = false ∧ Below w.heap.size w wd4)
    case first =>
      first | (go_region_with ((go_at_call 130; refine (width_any s H.toInt L.toInt _).mono ?_; rintro e w3 ⟨rfl, hb3⟩; have hz3 := hb3.size; (try simp at hz3); (first | (refine ltk (w.heap.size) (w3.heap.size) ?_ ?_; (focus omega); intro f30) | skip); (first | (refine ltk (w.heap.size + 1) (w3.heap.size) ?_ ?_; (focus omega); intro f31) | skip); (first | (refine ltk (w.heap.size + 2) (w3.heap.size) ?_ ?_; (focus omega); intro f32) | skip); (refine olds_k (w.heap.size + 3) hb3 ?_ ?_; (focus (first | omega | (simp; omega) | (simp; done))); intro hc3 hf3)))) | fail
      all_goals
        go_wp2_with fail
        go_meet
        refine ⟨?_, ?_, ?_, ?_, ?_, ?_, ?_, ?_, ?_, ?_, ?_, ?_, ?_, ?_, ?_, ?_, ?_⟩
        all_goals try (go_simp; done)
        repeat (first | with_reducible exact hW | (with_reducible refine Below.drew ?_) | (with_reducible refine Below.alloc ?_ ?_ _; rotate_left; (focus (first | omega | (simp; omega) | (simp; done)))) | (with_reducible refine Below.setCell ?_ ?_ _; rotate_left; (focus (first | omega | (simp; omega) | (simp; done)))) | (with_reducible refine Below.trans ?_ (hb3.mono ?_); rotate_left; (focus (first | omega | (simp; omega) | (simp; done)))))
    case rest =>
      obtain ⟨x0, p0, p1, p2, q0, q1, q2, q3, r0, r1, r2, r3, g0, g1, g2, g3, hV⟩ := hcut
      clear hc hf hB hW
      have x1 := Nat.lt_of_succ_lt x0
      go_wp2_with fail
      refine (HH.out _).mono ?_
      rintro e w4 ⟨rfl, hb4⟩
      have hz4 := hb4.size
      try simp at hz4
      have f40 : w.heap.size < w4.heap.size := by omega
      have f41 : w.heap.size + 1 < w4.heap.size := by omega
      have f42 : w.heap.size + 2 < w4.heap.size := by omega
      refine olds_k (w.heap.size + 3) hb4 ?_ ?_
      · first | omega | (simp; omega) | (simp; done)
      intro hc4 hf4
      go_wp2_with fail
      refine bodyPost_ret (v := .tuple #[.agg #[.bool s, .int .i64 H.toInt, .int .i64 L.toInt, .int .i64 n], .bool true]) (by simp [results, Tryz.results143, go_sem, hc4, r0, r1, r2, r3]) rfl ⟨rfl, ?_⟩
      repeat (first | with_reducible exact hV | (with_reducible refine Below.drew ?_) | (with_reducible refine Below.alloc ?_ ?_ _; rotate_left; (focus (first | omega | (simp; omega) | (simp; done)))) | (with_reducible refine Below.setCell ?_ ?_ _; rotate_left; (focus (first | omega | (simp; omega) | (simp; done)))) | (with_reducible refine Below.trans ?_ (hb4.mono ?_); rotate_left; (focus (first | omega | (simp; omega) | (simp; done)))))

set_option maxHeartbeats 1000000 in
theorem spanOf_off (s : Bool) (H L : BitVec 64) (b : Int) (n : Nat) (hn : n ≤ 128) (hok : okB s H.toInt L.toInt = true) (hb0 : 0 ≤ b) (hbw : b ≤ (wd s : Int)) (hsub : IntKind.i64.wrap ((wd s : Int) - b) = (n : Int)) (hh : hasB s H L n s H L = false) (w : World) :
    Calls Tryz.prog 143 #[.agg #[.bool s, .int .i64 H.toInt, .int .i64 L.toInt, .int .i64 b]] w fun e w' => e = .returned (.tuple #[.agg #[.bool false, .int .i64 0, .int .i64 0, .int .i64 0], .bool false]) ∧ Below w.heap.size w w' := by
  have HH : Hid (∀ w, _) := has_any s H L n hn s H L
  rw [hh] at HH
  clear hh
  have HK : Hid (∀ w, _) := iAddrOk_any s H.toInt L.toInt
  rw [hok] at HK
  clear hok
  have d1 : decide (b < 0) = false := decide_eq_false (by omega)
  have d2 : decide ((wd s : Int) < b) = false := decide_eq_false (by omega)
  go_enter Tryz.func143, Tryz.ntmps143
  go_upto_region 2 with fail
  go_cut [24] (fun t24 wc => t24 = .bool false ∧ Below (w.heap.size + 3) (((w.alloc (.cells #[.bool s, .int .i64 H.toInt, .int .i64 L.toInt, .int .i64 b] 66)).alloc (.cells #[.bool false, .int .i64 0, .int .i64 0, .int .i64 0] 190)).alloc (.cells #[.bool s, .int .i64 H.toInt, .int .i64 L.toInt, .int .i64 0] 190)) wc ∧ Below w.heap.size w wc)
  case first =>
    first | (go_region_with (first | (go_at_call 100; refine (HK.out _).mono ?_; rintro e w1 ⟨rfl, hb1⟩; have hz1 := hb1.size; (try simp at hz1); (first | (refine ltk (w.heap.size) (w1.heap.size) ?_ ?_; (focus omega); intro f10) | skip); (first | (refine ltk (w.heap.size + 1) (w1.heap.size) ?_ ?_; (focus omega); intro f11) | skip); (first | (refine ltk (w.heap.size + 2) (w1.heap.size) ?_ ?_; (focus omega); intro f12) | skip); (refine olds_k (w.heap.size + 3) hb1 ?_ ?_; (focus (first | omega | (simp; omega) | (simp; done))); intro hc1 hf1)) | (go_at_call 130; refine (width_any s H.toInt L.toInt _).mono ?_; rintro e w2 ⟨rfl, hb2⟩; have hz2 := hb2.size; (try simp at hz2); (first | (refine ltk (w.heap.size) (w2.heap.size) ?_ ?_; (focus omega); intro f20) | skip); (first | (refine ltk (w.heap.size + 1) (w2.heap.size) ?_ ?_; (focus omega); intro f21) | skip); (first | (refine ltk (w.heap.size + 2) (w2.heap.size) ?_ ?_; (focus omega); intro f22) | skip); (refine olds_k (w.heap.size + 3) hb2 ?_ ?_; (focus (first | omega | (simp; omega) | (simp; done))); intro hc2 hf2)))) | fail
    all_goals
      go_wp2_with fail
      go_meet
      refine ⟨rfl, ?_, ?_⟩
      · repeat (first | with_reducible exact Below.refl _ _ | (with_reducible refine Below.drew ?_) | (with_reducible refine Below.alloc ?_ ?_ _; rotate_left; (focus (first | omega | (simp; omega) | (simp; done)))) | (with_reducible refine Below.setCell ?_ ?_ _; rotate_left; (focus (first | omega | (simp; omega) | (simp; done)))) | (with_reducible refine Below.trans ?_ (hb2.mono ?_); rotate_left; (focus (first | omega | (simp; omega) | (simp; done)))) | (with_reducible refine Below.trans ?_ (hb1.mono ?_); rotate_left; (focus (first | omega | (simp; omega) | (simp; done)))))
      · repeat (first | with_reducible exact Below.refl _ _ | (with_reducible refine Below.drew ?_) | (with_reducible refine Below.alloc ?_ ?_ _; rotate_left; (focus (first | omega | (simp; omega) | (simp; done)))) | (with_reducible refine Below.setCell ?_ ?_ _; rotate_left; (focus (first | omega | (simp; omega) | (simp; done)))) | (with_reducible refine Below.trans ?_ (hb2.mono ?_); rotate_left; (focus (first | omega | (simp; omega) | (simp; done)))) | (with_reducible refine Below.trans ?_ (hb1.mono ?_); rotate_left; (focus (first | omega | (simp; omega) | (simp; done)))))
  case rest =>
    obtain ⟨rfl, hB, hW⟩ := hcut
    rename_i wc
    have hzc := hB.size
    simp at hzc
    have y0 : w.heap.size < wc.heap.size := by omega
    have y1 : w.heap.size + 1 < wc.heap.size := by omega
    have y2 : w.heap.size + 2 < wc.heap.size := by omega
    obtain ⟨hc, hf⟩ := olds hB
    go_upto_region 4 with fail
    go_cut [] (fun wd4 => w.heap.size + 2 < wd4.heap.size ∧ wd4.cell? ⟨w.heap.size, 0, none⟩ = some (.bool s) ∧ wd4.cell? ⟨w.heap.size, 1, none⟩ = some (.int .i64 H.toInt) ∧ wd4.cell? ⟨w.heap.size, 2, none⟩ = some (.int .i64 L.toInt) ∧ wd4.cell? ⟨w.heap.size + 2, 0, none⟩ = some (.bool s) ∧ wd4.cell? ⟨w.heap.size + 2, 1, none⟩ = some (.int .i64 H.toInt) ∧ wd4.cell? ⟨w.heap.size + 2, 2, none⟩ = some (.int .i64 L.toInt) ∧ wd4.cell? ⟨w.heap.size + 2, 3, none⟩ = some (.int .i64 n) ∧ wd4.cell? ⟨w.heap.size + 1, 0, none⟩ = some (.bool false) ∧ wd4.cell? ⟨w.heap.size + 1, 1, none⟩ = some (.int .i64 0) ∧ wd4.cell? ⟨w.heap.size + 1, 2, none⟩ = some (.int .i64 0) ∧ wd4.cell? ⟨w.heap.size + 1, 3, none⟩ = some (.int .i64 0) ∧ wd4.frozen? ⟨w.heap.size + 1, 0, none⟩ = false ∧ wd4.frozen? ⟨w.heap.size + 1, 1, none⟩ = false ∧ wd4.frozen? ⟨w.heap.size + 1, 2, none⟩ = false ∧ wd4.frozen? ⟨w.heap.size + 1, 3, none⟩ = false ∧ Below w.heap.size w wd4)
    case first =>
      first | (go_region_with ((go_at_call 130; refine (width_any s H.toInt L.toInt _).mono ?_; rintro e w3 ⟨rfl, hb3⟩; have hz3 := hb3.size; (try simp at hz3); (first | (refine ltk (w.heap.size) (w3.heap.size) ?_ ?_; (focus omega); intro f30) | skip); (first | (refine ltk (w.heap.size + 1) (w3.heap.size) ?_ ?_; (focus omega); intro f31) | skip); (first | (refine ltk (w.heap.size + 2) (w3.heap.size) ?_ ?_; (focus omega); intro f32) | skip); (refine olds_k (w.heap.size + 3) hb3 ?_ ?_; (focus (first | omega | (simp; omega) | (simp; done))); intro hc3 hf3)))) | fail
      all_goals
        go_wp2_with fail
        go_meet
        refine ⟨?_, ?_, ?_, ?_, ?_, ?_, ?_, ?_, ?_, ?_, ?_, ?_, ?_, ?_, ?_, ?_, ?_⟩
        all_goals try (go_simp; done)
        repeat (first | with_reducible exact hW | (with_reducible refine Below.drew ?_) | (with_reducible refine Below.alloc ?_ ?_ _; rotate_left; (focus (first | omega | (simp; omega) | (simp; done)))) | (with_reducible refine Below.setCell ?_ ?_ _; rotate_left; (focus (first | omega | (simp; omega) | (simp; done)))) | (with_reducible refine Below.trans ?_ (hb3.mono ?_); rotate_left; (focus (first | omega | (simp; omega) | (simp; done)))))
    case rest =>
      obtain ⟨x0, p0, p1, p2, q0, q1, q2, q3, r0, r1, r2, r3, g0, g1, g2, g3, hV⟩ := hcut
      clear hc hf hB hW
      have x1 := Nat.lt_of_succ_lt x0
      go_wp2_with fail
      refine (HH.out _).mono ?_
      rintro e w4 ⟨rfl, hb4⟩
      have hz4 := hb4.size
      try simp at hz4
      have f40 : w.heap.size < w4.heap.size := by omega
      have f41 : w.heap.size + 1 < w4.heap.size := by omega
      have f42 : w.heap.size + 2 < w4.heap.size := by omega
      refine olds_k (w.heap.size + 3) hb4 ?_ ?_
      · first | omega | (simp; omega) | (simp; done)
      intro hc4 hf4
      go_wp2_with fail
      refine bodyPost_ret (v := .tuple #[.agg #[.bool false, .int .i64 0, .int .i64 0, .int .i64 0], .bool false]) (by simp [results, Tryz.results143, go_sem, hc4, r0, r1, r2, r3]) rfl ⟨rfl, ?_⟩
      repeat (first | with_reducible exact hV | (with_reducible refine Below.drew ?_) | (with_reducible refine Below.alloc ?_ ?_ _; rotate_left; (focus (first | omega | (simp; omega) | (simp; done)))) | (with_reducible refine Below.setCell ?_ ?_ _; rotate_left; (focus (first | omega | (simp; omega) | (simp; done)))) | (with_reducible refine Below.trans ?_ (hb4.mono ?_); rotate_left; (focus (first | omega | (simp; omega) | (simp; done)))))

end Go.Proofs.YtngcbhbcocnbeaaGreat
namespace Go.Proofs.YtngcbhbcocnbeaaGreat
open Go.RowKit

set_option maxHeartbeats 1000000 in
theorem l2Width_any (s : Bool) (h l : Int) (w : World) :
    Calls Tryz.prog 107 #[.agg #[.bool s, .int .i64 h, .int .i64 l]] w fun e w' => e = .returned (.int .i64 (wd s)) ∧ Below w.heap.size w w' := by
  cases s <;>
  · go_enter Tryz.func107, Tryz.ntmps107
    go_wp2
    go_ret
    exact ⟨rfl, (Below.refl _ _).alloc (Nat.le_refl _) _⟩

theorem inB (x a b : Int) : (decide (a ≤ x) && decide (x ≤ b)) = decide (a ≤ x ∧ x ≤ b) := by
  by_cases h : a ≤ x <;> by_cases h1 : x ≤ b <;> simp [h, h1]

set_option maxHeartbeats 1000000 in
theorem l1In_any (x a b : Int) (w : World) :
    Calls Tryz.prog 87 #[.int .i64 x, .int .i64 a, .int .i64 b] w fun e w' => e = .returned (.bool (decide (a ≤ x ∧ x ≤ b))) ∧ w' = w := by
  rw [← inB]
  by_cases h : a ≤ x
  · rw [decide_eq_true h]
    go_enter Tryz.func87, Tryz.ntmps87
    go_wp2
    all_goals go_ret
    all_goals exact ⟨by simp_all, rfl⟩
  · rw [decide_eq_false h]
    go_enter Tryz.func87, Tryz.ntmps87
    go_wp2
    all_goals go_ret
    all_goals exact ⟨by simp_all, rfl⟩

theorem shr32' (r : BitVec 64) : (r.toNat : Int) / (4294967296 : Int) = ((r >>> 32).toNat : Int) := by
  rw [← shr32, Int.fdiv_eq_ediv_of_nonneg _ (by decide)]
  rfl

theorem hgA (b : Int) (h : b ≤ 0) : hg b = 0 := by simp [hg, h]
theorem hgB (b : Int) (h : ¬ b ≤ 0) (h1 : 64 ≤ b) : hg b = BitVec.allOnes 64 := by simp [hg, h, h1]

set_option maxHeartbeats 1000000 in
theorem l2High_any (b : Int) (h0 : -64 ≤ b) (h1 : b ≤ 128) (w : World) :
    Calls Tryz.prog 128 #[.int .i64 b] w fun e w' => e = .returned (.int .u64 (hg b).toNat) ∧ w' = w := by
  by_cases c : b ≤ 0
  · rw [hgA b c]
    go_enter Tryz.func128, Tryz.ntmps128
    go_wp2
    go_ret
    exact ⟨rfl, rfl⟩
  · by_cases d : 64 ≤ b
    · rw [hgB b c d]
      go_enter Tryz.func128, Tryz.ntmps128
      go_wp2
      go_ret
      exact ⟨rfl, rfl⟩
    · have e := hg_sh b (by omega) (by omega)
      rw [Nat.min_eq_left (by omega)] at e
      have u : IntKind.u64.wrap (64 - b) = 64 - b := by rw [IntKind.wrap_u64]; omega
      go_enter Tryz.func128, Tryz.ntmps128
      go_wp2
      go_ret
      exact ⟨rfl, rfl⟩

end Go.Proofs.YtngcbhbcocnbeaaGreat
namespace Go.Proofs.YtngcbhbcocnbeaaGreat
open Go.RowKit

set_option maxHeartbeats 1000000 in
theorem l2Mask_six (H L : BitVec 64) (n : Nat) (b : Int) (hn : n ≤ 128) (hb : b = 128 - (n : Int)) (w : World) :
    Calls Tryz.prog 109 #[.agg #[.bool true, .int .i64 H.toInt, .int .i64 L.toInt], .int .i64 b] w fun e w' => e = .returned (.agg #[.bool true, .int .i64 (cH n H).toInt, .int .i64 (cL n L).toInt]) ∧ Below w.heap.size w w' := by
  have a1 := l2High_any b (by omega) (by omega)
  have a2 := l2High_any (b - 64) (by omega) (by omega)
  rw [show hg b = ~~~ mh n by rw [hb]; exact hg_hi n hn] at a1
  rw [show hg (b - 64) = ~~~ ml n by rw [hb]; exact hg_lo n hn] at a2
  have H1 : Hid (∀ w, _) := a1
  have H2 : Hid (∀ w, _) := a2
  clear a1 a2
  have hb1 : -64 ≤ b - 64 := by omega
  have hb2 : b ≤ 128 := by omega
  have hw1 : wrap64 (b - 64) = b - 64 := by unfold wrap64; omega
  have hw2 : IntKind.i64.wrap (b - 64) = b - 64 := by rw [← w64]; exact hw1
  have k1 : IntKind.i64.wrap (bits .and .u64 (IntKind.u64.wrap H.toInt) ((~~~ mh n).toNat : Int)) = (cH n H).toInt := by rw [wrapU, bAndU, wrapI]; rfl
  have k2 : IntKind.i64.wrap (bits .and .u64 (IntKind.u64.wrap L.toInt) ((~~~ ml n).toNat : Int)) = (cL n L).toInt := by rw [wrapU, bAndU, wrapI]; rfl
  have k3 := k1
  have k4 := k2
  rw [← w64] at k3 k4
  generalize ~~~ mh n = M1 at k1 k3 H1
  generalize ~~~ ml n = M2 at k2 k4 H2
  generalize cH n H = X1 at k1 k3 ⊢
  generalize cL n L = X2 at k2 k4 ⊢
  clear hb hn
  go_enter Tryz.func109, Tryz.ntmps109
  go_wp2_with fail
  go_region_held3 (fun x => x.cell? ⟨w.heap.size, 0, none⟩ = some (.bool true) ∧ x.cell? ⟨w.heap.size, 1, none⟩ = some (.int .i64 H.toInt) ∧ x.cell? ⟨w.heap.size, 2, none⟩ = some (.int .i64 L.toInt)) ((go_simp)) (first | (go_at_call_of 128 (Value.int .i64 b); refine (H1.out _).mono ?_; rintro e w1 ⟨rfl, rfl⟩) | (go_at_call 128; refine (H2.out _).mono ?_; rintro e w1 ⟨rfl, rfl⟩))
  all_goals
    go_wp2_with fail
    refine bodyPost_ret (v := .agg #[.bool true, .int .i64 X1.toInt, .int .i64 X2.toInt]) (by simp [results, Tryz.results109, go_sem]) rfl ⟨rfl, ?_⟩
    repeat (first | with_reducible exact Below.refl _ _ | (with_reducible refine Below.drew ?_) | (with_reducible refine Below.alloc ?_ ?_ _; rotate_left; (focus (first | omega | (simp; omega) | (simp; done)))) | (with_reducible refine Below.setCell ?_ ?_ _; rotate_left; (focus (first | omega | (simp; omega) | (simp; done)))))

set_option maxHeartbeats 1000000 in
theorem l2Mask_four (L : BitVec 64) (n : Nat) (b : Int) (hn : n ≤ 32) (hL : L.toNat < 4294967296) (hb : b = 32 - (n : Int)) (w : World) :
    Calls Tryz.prog 109 #[.agg #[.bool false, .int .i64 0, .int .i64 L.toInt], .int .i64 b] w fun e w' => e = .returned (.agg #[.bool false, .int .i64 0, .int .i64 (cL n L).toInt]) ∧ Below w.heap.size w w' := by
  have a1 := l2High_any b (by omega) (by omega)
  have H1 : Hid (∀ w, _) := a1
  clear a1
  have k1 : bits .and .i64 L.toInt (IntKind.i64.wrap (((hg b).toNat : Int) / 4294967296)) = (cL n L).toInt := by
    rw [shr32', wrapI, bAnd, hb, msk32 L hL n hn]; rfl
  generalize hg b = M1 at k1 H1
  generalize cL n L = X2 at k1 ⊢
  clear hb hn hL
  go_enter Tryz.func109, Tryz.ntmps109
  go_wp2_with fail
  go_region_held3 (fun x => x.cell? ⟨w.heap.size, 0, none⟩ = some (.bool false) ∧ x.cell? ⟨w.heap.size, 1, none⟩ = some (.int .i64 0) ∧ x.cell? ⟨w.heap.size, 2, none⟩ = some (.int .i64 L.toInt)) ((go_simp)) ((go_at_call 128; refine (H1.out _).mono ?_; rintro e w1 ⟨rfl, rfl⟩))
  all_goals
    go_wp2_with fail
    refine bodyPost_ret (v := .agg #[.bool false, .int .i64 0, .int .i64 X2.toInt]) (by simp [results, Tryz.results109, go_sem]) rfl ⟨rfl, ?_⟩
    repeat (first | with_reducible exact Below.refl _ _ | (with_reducible refine Below.drew ?_) | (with_reducible refine Below.alloc ?_ ?_ _; rotate_left; (focus (first | omega | (simp; omega) | (simp; done)))) | (with_reducible refine Below.setCell ?_ ?_ _; rotate_left; (focus (first | omega | (simp; omega) | (simp; done)))))

end Go.Proofs.YtngcbhbcocnbeaaGreat
namespace Go.Proofs.YtngcbhbcocnbeaaGreat
open Go.RowKit

/-- whether (s, H, L) and b bits are a right prefix -/
def pokB (s : Bool) (H L : BitVec 64) (b : Int) : Bool := okB s H.toInt L.toInt && (decide (0 ≤ b ∧ b ≤ (wd s : Int)) && hasB s H L ((wd s : Int) - b).toNat s H L)

theorem okB_four (H L : BitVec 64) (h : okB false H.toInt L.toInt = true) : H = 0 ∧ L.toNat < 4294967296 := by
  simp [okB] at h
  have h1 : H = 0 := by
    have := BitVec.ofInt_toInt (x := H)
    rw [h.1] at this
    simpa using this.symm
  refine ⟨h1, ?_⟩
  have e := BitVec.toInt_eq_toNat_cond (x := L)
  have := L.isLt
  split at e <;> omega

theorem l2Mask_any (s : Bool) (H L : BitVec 64) (n : Nat) (b : Int) (hok : okB s H.toInt L.toInt = true) (hn : n ≤ wd s) (hb : b = (wd s : Int) - (n : Int)) (w : World) :
    Calls Tryz.prog 109 #[.agg #[.bool s, .int .i64 H.toInt, .int .i64 L.toInt], .int .i64 b] w fun e w' => e = .returned (.agg #[.bool s, .int .i64 (cH n H).toInt, .int .i64 (cL n L).toInt]) ∧ Below w.heap.size w w' := by
  cases s
  · obtain ⟨rfl, hL⟩ := okB_four H L hok
    have := l2Mask_four L n b (by simpa [wd] using hn) hL (by simpa [wd] using hb) w
    have z : (cH n (0 : BitVec 64)) = 0 := by simp [cH]
    rw [z]
    simpa using this
  · exact l2Mask_six H L n b (by simpa [wd] using hn) (by simpa [wd] using hb) w

theorem four_of_below {W X : World} {n b : Nat} {v0 v1 v2 v3 : Value} (hB : Below n W X) (hb : b < n)
    (k : W.cell? ⟨b, 0, none⟩ = some v0 ∧ W.cell? ⟨b, 1, none⟩ = some v1 ∧ W.cell? ⟨b, 2, none⟩ = some v2 ∧ W.cell? ⟨b, 3, none⟩ = some v3) :
    X.cell? ⟨b, 0, none⟩ = some v0 ∧ X.cell? ⟨b, 1, none⟩ = some v1 ∧ X.cell? ⟨b, 2, none⟩ = some v2 ∧ X.cell? ⟨b, 3, none⟩ = some v3 := by
  obtain ⟨k0, k1, k2, k3⟩ := k
  exact ⟨(hB.cell hb).trans k0, (hB.cell hb).trans k1, (hB.cell hb).trans k2, (hB.cell hb).trans k3⟩

set_option maxHeartbeats 1000000 in
theorem sPrefixOk_bad (s : Bool) (H L : BitVec 64) (b : Int) (hok : okB s H.toInt L.toInt = false) (w : World) :
    Calls Tryz.prog 85 #[.agg #[.bool s, .int .i64 H.toInt, .int .i64 L.toInt, .int .i64 b]] w fun e w' => e = .returned (.bool false) ∧ Below w.heap.size w w' := by
  have HK : Hid (∀ w, _) := sAddrOk_any s H.toInt L.toInt
  rw [hok] at HK
  clear hok
  go_enter Tryz.func85, Tryz.ntmps85
  go_wp2_with fail
  refine wp_region_held_drew (S := (fun x => x.cell? ⟨w.heap.size, 0, none⟩ = some (.bool s) ∧ x.cell? ⟨w.heap.size, 1, none⟩ = some (.int .i64 H.toInt) ∧ x.cell? ⟨w.heap.size, 2, none⟩ = some (.int .i64 L.toInt) ∧ x.cell? ⟨w.heap.size, 3, none⟩ = some (.int .i64 b))) (by kernel_rfl) ?_ (fun hHeld => ?_)
  · try dsimp only
    (refine four_of_below (W := w.alloc (.cells #[.bool s, .int .i64 H.toInt, .int .i64 L.toInt, .int .i64 b] 66)) (n := w.heap.size + 1) ?_ (by omega) ⟨by simp [go_sem], by simp [go_sem], by simp [go_sem], by simp [go_sem]⟩; repeat (first | with_reducible exact Below.refl _ _ | (with_reducible refine Below.drew ?_) | (with_reducible refine Below.alloc ?_ ?_ _; rotate_left; (focus (first | omega | (simp; omega) | (simp; done)))) | (with_reducible refine Below.setCell ?_ ?_ _; rotate_left; (focus (first | omega | (simp; omega) | (simp; done))))))
  refine wpAnyH_take (i := 0) (v := ?_) rfl (by kernel_rfl) (by kernel_rfl) (by kernel_rfl) (fun _ _ _ h => h) (Or.inl ⟨by rfl, ?_⟩) (by assumption) ?_
  rotate_left
  · intro w hSw
    try dsimp only at hSw
    go_simp
    try with_reducible rfl
  try simp only [go_sem]
  refine wpAnyH_take (i := 1) (v := ?_) rfl (by kernel_rfl) (by kernel_rfl) (by kernel_rfl) (fun _ _ _ h => h) (Or.inl ⟨by rfl, ?_⟩) (by assumption) ?_
  rotate_left
  · intro w hSw
    try dsimp only at hSw
    go_simp
    try with_reducible rfl
  try simp only [go_sem]
  refine wpAnyH_ready (rs := [2]) (by kernel_rfl) (by simp) ?_
  refine AllReadyH.cons rfl (fun K hK => ?_) AllReadyH.nil
  go_simp
  go_wp2_with ((go_at_call 56; refine (HK.out _).mono ?_; rintro e w1 ⟨rfl, hb1⟩; have hz1 := hb1.size; (try simp at hz1); (first | (refine ltk (w.heap.size) (w1.heap.size) ?_ ?_; (focus omega); intro f10) | skip); (refine olds_k (w.heap.size + 1) hb1 ?_ ?_; (focus (first | omega | (simp; omega) | (simp; done))); intro hc1 hf1)))
  refine hK.out _ _ ?_ (fun hHeld => ?_)
  · try dsimp only
    (refine four_of_below (W := w.alloc (.cells #[.bool s, .int .i64 H.toInt, .int .i64 L.toInt, .int .i64 b] 66)) (n := w.heap.size + 1) ?_ (by omega) ⟨by simp [go_sem], by simp [go_sem], by simp [go_sem], by simp [go_sem]⟩; repeat (first | with_reducible exact Below.refl _ _ | (with_reducible refine Below.drew ?_) | (with_reducible refine Below.alloc ?_ ?_ _; rotate_left; (focus (first | omega | (simp; omega) | (simp; done)))) | (with_reducible refine Below.setCell ?_ ?_ _; rotate_left; (focus (first | omega | (simp; omega) | (simp; done)))) | (with_reducible refine Below.trans ?_ (hb1.mono ?_); rotate_left; (focus (first | omega | (simp; omega) | (simp; done))))))
  clear hK K
  refine wpAnyH_take (i := 3) (v := ?_) rfl (by kernel_rfl) (by kernel_rfl) (by kernel_rfl) (fun _ _ _ h => h) (Or.inl ⟨by rfl, ?_⟩) (by assumption) ?_
  rotate_left
  · intro w hSw
    try dsimp only at hSw
    go_simp
    try with_reducible rfl
  try simp only [go_sem]
  refine wpAnyH_take (i := 4) (v := undef) rfl (by kernel_rfl) (by kernel_rfl) (by kernel_rfl) (fun _ _ _ h => h) (Or.inr ⟨by rfl, rfl⟩) (by assumption) ?_
  try simp only [go_sem]
  refine wpAnyH_take (i := 5) (v := undef) rfl (by kernel_rfl) (by kernel_rfl) (by kernel_rfl) (fun _ _ _ h => h) (Or.inr ⟨by rfl, rfl⟩) (by assumption) ?_
  try simp only [go_sem]
  refine wpAnyH_take (i := 6) (v := undef) rfl (by kernel_rfl) (by kernel_rfl) (by kernel_rfl) (fun _ _ _ h => h) (Or.inr ⟨by rfl, rfl⟩) (by assumption) ?_
  try simp only [go_sem]
  refine wpAnyH_take (i := 7) (v := undef) rfl (by kernel_rfl) (by kernel_rfl) (by kernel_rfl) (fun _ _ _ h => h) (Or.inr ⟨by rfl, rfl⟩) (by assumption) ?_
  try simp only [go_sem]
  refine wpAnyH_ready (rs := [8]) (by kernel_rfl) (by simp) ?_
  refine AllReadyH.cons rfl (fun K hK => ?_) AllReadyH.nil
  go_simp
  refine hK.out _ _ ?_ (fun hHeld => ?_)
  · try dsimp only
    (refine four_of_below (W := w.alloc (.cells #[.bool s, .int .i64 H.toInt, .int .i64 L.toInt, .int .i64 b] 66)) (n := w.heap.size + 1) ?_ (by omega) ⟨by simp [go_sem], by simp [go_sem], by simp [go_sem], by simp [go_sem]⟩; repeat (first | with_reducible exact Below.refl _ _ | (with_reducible refine Below.drew ?_) | (with_reducible refine Below.alloc ?_ ?_ _; rotate_left; (focus (first | omega | (simp; omega) | (simp; done)))) | (with_reducible refine Below.setCell ?_ ?_ _; rotate_left; (focus (first | omega | (simp; omega) | (simp; done)))) | (with_reducible refine Below.trans ?_ (hb1.mono ?_); rotate_left; (focus (first | omega | (simp; omega) | (simp; done))))))
  clear hK K
  refine wpAnyH_ready (rs := [9]) (by kernel_rfl) (by simp) ?_
  refine AllReadyH.cons rfl (fun K hK => ?_) AllReadyH.nil
  go_simp
  refine hK.out _ _ ?_ (fun hHeld => ?_)
  · try dsimp only
    (refine four_of_below (W := w.alloc (.cells #[.bool s, .int .i64 H.toInt, .int .i64 L.toInt, .int .i64 b] 66)) (n := w.heap.size + 1) ?_ (by omega) ⟨by simp [go_sem], by simp [go_sem], by simp [go_sem], by simp [go_sem]⟩; repeat (first | with_reducible exact Below.refl _ _ | (with_reducible refine Below.drew ?_) | (with_reducible refine Below.alloc ?_ ?_ _; rotate_left; (focus (first | omega | (simp; omega) | (simp; done)))) | (with_reducible refine Below.setCell ?_ ?_ _; rotate_left; (focus (first | omega | (simp; omega) | (simp; done)))) | (with_reducible refine Below.trans ?_ (hb1.mono ?_); rotate_left; (focus (first | omega | (simp; omega) | (simp; done))))))
  clear hK K
  refine wpAnyH_take (i := 10) (v := ?_) rfl (by kernel_rfl) (by kernel_rfl) (by kernel_rfl) (fun _ _ _ h => h) (Or.inl ⟨by rfl, ?_⟩) (by assumption) ?_
  rotate_left
  · intro w hSw
    try dsimp only at hSw
    go_simp
    try with_reducible rfl
  try simp only [go_sem]
  refine wpAnyH_take (i := 11) (v := ?_) rfl (by kernel_rfl) (by kernel_rfl) (by kernel_rfl) (fun _ _ _ h => h) (Or.inl ⟨by rfl, ?_⟩) (by assumption) ?_
  rotate_left
  · intro w hSw
    try dsimp only at hSw
    go_simp
    try with_reducible rfl
  try simp only [go_sem]
  refine wpAnyH_take (i := 12) (v := undef) rfl (by kernel_rfl) (by kernel_rfl) (by kernel_rfl) (fun _ _ _ h => h) (Or.inr ⟨by rfl, rfl⟩) (by assumption) ?_
  try simp only [go_sem]
  refine wpAnyH_take (i := 13) (v := undef) rfl (by kernel_rfl) (by kernel_rfl) (by kernel_rfl) (fun _ _ _ h => h) (Or.inr ⟨by rfl, rfl⟩) (by assumption) ?_
  try simp only [go_sem]
  refine wpAnyH_take (i := 14) (v := undef) rfl (by kernel_rfl) (by kernel_rfl) (by kernel_rfl) (fun _ _ _ h => h) (Or.inr ⟨by rfl, rfl⟩) (by assumption) ?_
  try simp only [go_sem]
  refine wpAnyH_take (i := 15) (v := undef) rfl (by kernel_rfl) (by kernel_rfl) (by kernel_rfl) (fun _ _ _ h => h) (Or.inr ⟨by rfl, rfl⟩) (by assumption) ?_
  try simp only [go_sem]
  refine wpAnyH_take (i := 17) (v := undef) rfl (by kernel_rfl) (by kernel_rfl) (by kernel_rfl) (fun _ _ _ h => h) (Or.inr ⟨by rfl, rfl⟩) (by assumption) ?_
  try simp only [go_sem]
  refine wpAnyH_take (i := 18) (v := undef) rfl (by kernel_rfl) (by kernel_rfl) (by kernel_rfl) (fun _ _ _ h => h) (Or.inr ⟨by rfl, rfl⟩) (by assumption) ?_
  try simp only [go_sem]
  refine wpAnyH_ready (rs := [16]) (by kernel_rfl) (by simp) ?_
  refine AllReadyH.cons rfl (fun K hK => ?_) AllReadyH.nil
  go_simp
  refine hK.out _ _ ?_ (fun hHeld => ?_)
  · try dsimp only
    (refine four_of_below (W := w.alloc (.cells #[.bool s, .int .i64 H.toInt, .int .i64 L.toInt, .int .i64 b] 66)) (n := w.heap.size + 1) ?_ (by omega) ⟨by simp [go_sem], by simp [go_sem], by simp [go_sem], by simp [go_sem]⟩; repeat (first | with_reducible exact Below.refl _ _ | (with_reducible refine Below.drew ?_) | (with_reducible refine Below.alloc ?_ ?_ _; rotate_left; (focus (first | omega | (simp; omega) | (simp; done)))) | (with_reducible refine Below.setCell ?_ ?_ _; rotate_left; (focus (first | omega | (simp; omega) | (simp; done)))) | (with_reducible refine Below.trans ?_ (hb1.mono ?_); rotate_left; (focus (first | omega | (simp; omega) | (simp; done))))))
  clear hK K
  refine wpAnyH_take (i := 19) (v := undef) rfl (by kernel_rfl) (by kernel_rfl) (by kernel_rfl) (fun _ _ _ h => h) (Or.inr ⟨by rfl, rfl⟩) (by assumption) ?_
  simp only [List.getElem_toArray, List.getElem_cons_succ, List.getElem_cons_zero]
  try simp only [go_sem]
  refine wpAnyH_take (i := 20) (v := ?_) rfl (by kernel_rfl) (by kernel_rfl) (by kernel_rfl) (fun _ _ _ h => h) (Or.inl ⟨by rfl, ?_⟩) (by assumption) ?_
  rotate_left
  · intro w hSw
    try dsimp only at hSw
    go_simp
    try with_reducible rfl
  simp only [List.getElem_toArray, List.getElem_cons_succ, List.getElem_cons_zero]
  try simp only [go_sem]
  refine wpAnyH_take (i := 21) (v := ?_) rfl (by kernel_rfl) (by kernel_rfl) (by kernel_rfl) (fun _ _ _ h => h) (Or.inl ⟨by rfl, ?_⟩) (by assumption) ?_
  rotate_left
  · intro w hSw
    try dsimp only at hSw
    go_simp
    try with_reducible rfl
  simp only [List.getElem_toArray, List.getElem_cons_succ, List.getElem_cons_zero]
  try simp only [go_sem]
  refine wpAnyH_done (by kernel_rfl) ?_ _
  go_wp2_with fail
  go_ret
  refine ⟨rfl, ?_⟩
  repeat (first | with_reducible exact Below.refl _ _ | (with_reducible refine Below.drew ?_) | (with_reducible refine Below.alloc ?_ ?_ _; rotate_left; (focus (first | omega | (simp; omega) | (simp; done)))) | (with_reducible refine Below.setCell ?_ ?_ _; rotate_left; (focus (first | omega | (simp; omega) | (simp; done)))) | (with_reducible refine Below.trans ?_ (hb1.mono ?_); rotate_left; (focus (first | omega | (simp; omega) | (simp; done)))))

set_option maxHeartbeats 1000000 in
theorem sPrefixOk_out (s : Bool) (H L : BitVec 64) (b : Int) (hok : okB s H.toInt L.toInt = true) (hin : decide (0 ≤ b ∧ b ≤ (wd s : Int)) = false) (w : World) :
    Calls Tryz.prog 85 #[.agg #[.bool s, .int .i64 H.toInt, .int .i64 L.toInt, .int .i64 b]] w fun e w' => e = .returned (.bool false) ∧ Below w.heap.size w w' := by
  have HK : Hid (∀ w, _) := sAddrOk_any s H.toInt L.toInt
  rw [hok] at HK
  clear hok
  have HI : Hid (∀ w, _) := l1In_any b 0 (wd s)
  rw [hin] at HI
  clear hin
  go_enter Tryz.func85, Tryz.ntmps85
  go_wp2_with fail
  refine wp_region_held_drew (S := (fun x => x.cell? ⟨w.heap.size, 0, none⟩ = some (.bool s) ∧ x.cell? ⟨w.heap.size, 1, none⟩ = some (.int .i64 H.toInt) ∧ x.cell? ⟨w.heap.size, 2, none⟩ = some (.int .i64 L.toInt) ∧ x.cell? ⟨w.heap.size, 3, none⟩ = some (.int .i64 b))) (by kernel_rfl) ?_ (fun hHeld => ?_)
  · try dsimp only
    (refine four_of_below (W := w.alloc (.cells #[.bool s, .int .i64 H.toInt, .int .i64 L.toInt, .int .i64 b] 66)) (n := w.heap.size + 1) ?_ (by omega) ⟨by simp [go_sem], by simp [go_sem], by simp [go_sem], by simp [go_sem]⟩; repeat (first | with_reducible exact Below.refl _ _ | (with_reducible refine Below.drew ?_) | (with_reducible refine Below.alloc ?_ ?_ _; rotate_left; (focus (first | omega | (simp; omega) | (simp; done)))) | (with_reducible refine Below.setCell ?_ ?_ _; rotate_left; (focus (first | omega | (simp; omega) | (simp; done))))))
  refine wpAnyH_take (i := 0) (v := ?_) rfl (by kernel_rfl) (by kernel_rfl) (by kernel_rfl) (fun _ _ _ h => h) (Or.inl ⟨by rfl, ?_⟩) (by assumption) ?_
  rotate_left
  · intro w hSw
    try dsimp only at hSw
    go_simp
    try with_reducible rfl
  try simp only [go_sem]
  refine wpAnyH_take (i := 1) (v := ?_) rfl (by kernel_rfl) (by kernel_rfl) (by kernel_rfl) (fun _ _ _ h => h) (Or.inl ⟨by rfl, ?_⟩) (by assumption) ?_
  rotate_left
  · intro w hSw
    try dsimp only at hSw
    go_simp
    try with_reducible rfl
  try simp only [go_sem]
  refine wpAnyH_ready (rs := [2]) (by kernel_rfl) (by simp) ?_
  refine AllReadyH.cons rfl (fun K hK => ?_) AllReadyH.nil
  go_simp
  go_wp2_with ((go_at_call 56; refine (HK.out _).mono ?_; rintro e w1 ⟨rfl, hb1⟩; have hz1 := hb1.size; (try simp at hz1); (first | (refine ltk (w.heap.size) (w1.heap.size) ?_ ?_; (focus omega); intro f10) | skip); (refine olds_k (w.heap.size + 1) hb1 ?_ ?_; (focus (first | omega | (simp; omega) | (simp; done))); intro hc1 hf1)))
  refine hK.out _ _ ?_ (fun hHeld => ?_)
  · try dsimp only
    (refine four_of_below (W := w.alloc (.cells #[.bool s, .int .i64 H.toInt, .int .i64 L.toInt, .int .i64 b] 66)) (n := w.heap.size + 1) ?_ (by omega) ⟨by simp [go_sem], by simp [go_sem], by simp [go_sem], by simp [go_sem]⟩; repeat (first | with_reducible exact Below.refl _ _ | (with_reducible refine Below.drew ?_) | (with_reducible refine Below.alloc ?_ ?_ _; rotate_left; (focus (first | omega | (simp; omega) | (simp; done)))) | (with_reducible refine Below.setCell ?_ ?_ _; rotate_left; (focus (first | omega | (simp; omega) | (simp; done)))) | (with_reducible refine Below.trans ?_ (hb1.mono ?_); rotate_left; (focus (first | omega | (simp; omega) | (simp; done))))))
  clear hK K
  refine wpAnyH_take (i := 3) (v := ?_) rfl (by kernel_rfl) (by kernel_rfl) (by kernel_rfl) (fun _ _ _ h => h) (Or.inl ⟨by rfl, ?_⟩) (by assumption) ?_
  rotate_left
  · intro w hSw
    try dsimp only at hSw
    go_simp
    try with_reducible rfl
  try simp only [go_sem]
  refine wpAnyH_take (i := 4) (v := ?_) rfl (by kernel_rfl) (by kernel_rfl) (by kernel_rfl) (fun _ _ _ h => h) (Or.inl ⟨by rfl, ?_⟩) (by assumption) ?_
  rotate_left
  · intro w hSw
    try dsimp only at hSw
    go_simp
    try with_reducible rfl
  try simp only [go_sem]
  refine wpAnyH_take (i := 5) (v := ?_) rfl (by kernel_rfl) (by kernel_rfl) (by kernel_rfl) (fun _ _ _ h => h) (Or.inl ⟨by rfl, ?_⟩) (by assumption) ?_
  rotate_left
  · intro w hSw
    try dsimp only at hSw
    go_simp
    try with_reducible rfl
  try simp only [go_sem]
  refine wpAnyH_take (i := 6) (v := ?_) rfl (by kernel_rfl) (by kernel_rfl) (by kernel_rfl) (fun _ _ _ h => h) (Or.inl ⟨by rfl, ?_⟩) (by assumption) ?_
  rotate_left
  · intro w hSw
    try dsimp only at hSw
    go_simp
    try with_reducible rfl
  try simp only [go_sem]
  refine wpAnyH_take (i := 7) (v := ?_) rfl (by kernel_rfl) (by kernel_rfl) (by kernel_rfl) (fun _ _ _ h => h) (Or.inl ⟨by rfl, ?_⟩) (by assumption) ?_
  rotate_left
  · intro w hSw
    try dsimp only at hSw
    go_simp
    try with_reducible rfl
  try simp only [go_sem]
  refine wpAnyH_ready (rs := [8]) (by kernel_rfl) (by simp) ?_
  refine AllReadyH.cons rfl (fun K hK => ?_) AllReadyH.nil
  go_simp
  go_wp2_with ((go_at_call 107; refine (l2Width_any s H.toInt L.toInt _).mono ?_; rintro e w2 ⟨rfl, hb2⟩; have hz2 := hb2.size; (try simp at hz2); (first | (refine ltk (w.heap.size) (w2.heap.size) ?_ ?_; (focus omega); intro f20) | skip); (refine olds_k (w.heap.size + 1) hb2 ?_ ?_; (focus (first | omega | (simp; omega) | (simp; done))); intro hc2 hf2)))
  refine hK.out _ _ ?_ (fun hHeld => ?_)
  · try dsimp only
    (refine four_of_below (W := w.alloc (.cells #[.bool s, .int .i64 H.toInt, .int .i64 L.toInt, .int .i64 b] 66)) (n := w.heap.size + 1) ?_ (by omega) ⟨by simp [go_sem], by simp [go_sem], by simp [go_sem], by simp [go_sem]⟩; repeat (first | with_reducible exact Below.refl _ _ | (with_reducible refine Below.drew ?_) | (with_reducible refine Below.alloc ?_ ?_ _; rotate_left; (focus (first | omega | (simp; omega) | (simp; done)))) | (with_reducible refine Below.setCell ?_ ?_ _; rotate_left; (focus (first | omega | (simp; omega) | (simp; done)))) | (with_reducible refine Below.trans ?_ (hb2.mono ?_); rotate_left; (focus (first | omega | (simp; omega) | (simp; done)))) | (with_reducible refine Below.trans ?_ (hb1.mono ?_); rotate_left; (focus (first | omega | (simp; omega) | (simp; done))))))
  clear hK K
  refine wpAnyH_ready (rs := [9]) (by kernel_rfl) (by simp) ?_
  refine AllReadyH.cons rfl (fun K hK => ?_) AllReadyH.nil
  go_simp
  go_wp2_with ((go_at_call 87; refine (HI.out _).mono ?_; rintro e w3 ⟨rfl, rfl⟩))
  refine hK.out _ _ ?_ (fun hHeld => ?_)
  · try dsimp only
    (refine four_of_below (W := w.alloc (.cells #[.bool s, .int .i64 H.toInt, .int .i64 L.toInt, .int .i64 b] 66)) (n := w.heap.size + 1) ?_ (by omega) ⟨by simp [go_sem], by simp [go_sem], by simp [go_sem], by simp [go_sem]⟩; repeat (first | with_reducible exact Below.refl _ _ | (with_reducible refine Below.drew ?_) | (with_reducible refine Below.alloc ?_ ?_ _; rotate_left; (focus (first | omega | (simp; omega) | (simp; done)))) | (with_reducible refine Below.setCell ?_ ?_ _; rotate_left; (focus (first | omega | (simp; omega) | (simp; done)))) | (with_reducible refine Below.trans ?_ (hb2.mono ?_); rotate_left; (focus (first | omega | (simp; omega) | (simp; done)))) | (with_reducible refine Below.trans ?_ (hb1.mono ?_); rotate_left; (focus (first | omega | (simp; omega) | (simp; done))))))
  clear hK K
  refine wpAnyH_take (i := 10) (v := ?_) rfl (by kernel_rfl) (by kernel_rfl) (by kernel_rfl) (fun _ _ _ h => h) (Or.inl ⟨by rfl, ?_⟩) (by assumption) ?_
  rotate_left
  · intro w hSw
    try dsimp only at hSw
    go_simp
    try with_reducible rfl
  try simp only [go_sem]
  refine wpAnyH_take (i := 11) (v := ?_) rfl (by kernel_rfl) (by kernel_rfl) (by kernel_rfl) (fun _ _ _ h => h) (Or.inl ⟨by rfl, ?_⟩) (by assumption) ?_
  rotate_left
  · intro w hSw
    try dsimp only at hSw
    go_simp
    try with_reducible rfl
  try simp only [go_sem]
  refine wpAnyH_take (i := 12) (v := undef) rfl (by kernel_rfl) (by kernel_rfl) (by kernel_rfl) (fun _ _ _ h => h) (Or.inr ⟨by rfl, rfl⟩) (by assumption) ?_
  try simp only [go_sem]
  refine wpAnyH_take (i := 13) (v := undef) rfl (by kernel_rfl) (by kernel_rfl) (by kernel_rfl) (fun _ _ _ h => h) (Or.inr ⟨by rfl, rfl⟩) (by assumption) ?_
  try simp only [go_sem]
  refine wpAnyH_take (i := 14) (v := undef) rfl (by kernel_rfl) (by kernel_rfl) (by kernel_rfl) (fun _ _ _ h => h) (Or.inr ⟨by rfl, rfl⟩) (by assumption) ?_
  try simp only [go_sem]
  refine wpAnyH_take (i := 15) (v := undef) rfl (by kernel_rfl) (by kernel_rfl) (by kernel_rfl) (fun _ _ _ h => h) (Or.inr ⟨by rfl, rfl⟩) (by assumption) ?_
  try simp only [go_sem]
  refine wpAnyH_take (i := 17) (v := undef) rfl (by kernel_rfl) (by kernel_rfl) (by kernel_rfl) (fun _ _ _ h => h) (Or.inr ⟨by rfl, rfl⟩) (by assumption) ?_
  try simp only [go_sem]
  refine wpAnyH_take (i := 18) (v := undef) rfl (by kernel_rfl) (by kernel_rfl) (by kernel_rfl) (fun _ _ _ h => h) (Or.inr ⟨by rfl, rfl⟩) (by assumption) ?_
  try simp only [go_sem]
  refine wpAnyH_ready (rs := [16]) (by kernel_rfl) (by simp) ?_
  refine AllReadyH.cons rfl (fun K hK => ?_) AllReadyH.nil
  go_simp
  refine hK.out _ _ ?_ (fun hHeld => ?_)
  · try dsimp only
    (refine four_of_below (W := w.alloc (.cells #[.bool s, .int .i64 H.toInt, .int .i64 L.toInt, .int .i64 b] 66)) (n := w.heap.size + 1) ?_ (by omega) ⟨by simp [go_sem], by simp [go_sem], by simp [go_sem], by simp [go_sem]⟩; repeat (first | with_reducible exact Below.refl _ _ | (with_reducible refine Below.drew ?_) | (with_reducible refine Below.alloc ?_ ?_ _; rotate_left; (focus (first | omega | (simp; omega) | (simp; done)))) | (with_reducible refine Below.setCell ?_ ?_ _; rotate_left; (focus (first | omega | (simp; omega) | (simp; done)))) | (with_reducible refine Below.trans ?_ (hb2.mono ?_); rotate_left; (focus (first | omega | (simp; omega) | (simp; done)))) | (with_reducible refine Below.trans ?_ (hb1.mono ?_); rotate_left; (focus (first | omega | (simp; omega) | (simp; done))))))
  clear hK K
  refine wpAnyH_take (i := 19) (v := undef) rfl (by kernel_rfl) (by kernel_rfl) (by kernel_rfl) (fun _ _ _ h => h) (Or.inr ⟨by rfl, rfl⟩) (by assumption) ?_
  simp only [List.getElem_toArray, List.getElem_cons_succ, List.getElem_cons_zero]
  try simp only [go_sem]
  refine wpAnyH_take (i := 20) (v := ?_) rfl (by kernel_rfl) (by kernel_rfl) (by kernel_rfl) (fun _ _ _ h => h) (Or.inl ⟨by rfl, ?_⟩) (by assumption) ?_
  rotate_left
  · intro w hSw
    try dsimp only at hSw
    go_simp
    try with_reducible rfl
  simp only [List.getElem_toArray, List.getElem_cons_succ, List.getElem_cons_zero]
  try simp only [go_sem]
  refine wpAnyH_take (i := 21) (v := ?_) rfl (by kernel_rfl) (by kernel_rfl) (by kernel_rfl) (fun _ _ _ h => h) (Or.inl ⟨by rfl, ?_⟩) (by assumption) ?_
  rotate_left
  · intro w hSw
    try dsimp only at hSw
    go_simp
    try with_reducible rfl
  simp only [List.getElem_toArray, List.getElem_cons_succ, List.getElem_cons_zero]
  try simp only [go_sem]
  refine wpAnyH_done (by kernel_rfl) ?_ _
  go_wp2_with fail
  go_ret
  refine ⟨rfl, ?_⟩
  repeat (first | with_reducible exact Below.refl _ _ | (with_reducible refine Below.drew ?_) | (with_reducible refine Below.alloc ?_ ?_ _; rotate_left; (focus (first | omega | (simp; omega) | (simp; done)))) | (with_reducible refine Below.setCell ?_ ?_ _; rotate_left; (focus (first | omega | (simp; omega) | (simp; done)))) | (with_reducible refine Below.trans ?_ (hb2.mono ?_); rotate_left; (focus (first | omega | (simp; omega) | (simp; done)))) | (with_reducible refine Below.trans ?_ (hb1.mono ?_); rotate_left; (focus (first | omega | (simp; omega) | (simp; done)))))

set_option maxHeartbeats 1000000 in
theorem sPrefixOk_in (s : Bool) (H L : BitVec 64) (b : Int) (n : Nat) (hok : okB s H.toInt L.toInt = true) (hin : decide (0 ≤ b ∧ b ≤ (wd s : Int)) = true) (hn : n ≤ wd s) (hb : b = (wd s : Int) - n) (w : World) :
    Calls Tryz.prog 85 #[.agg #[.bool s, .int .i64 H.toInt, .int .i64 L.toInt, .int .i64 b]] w fun e w' => e = .returned (.bool (hasB s H L n s H L)) ∧ Below w.heap.size w w' := by
  have HM : Hid (∀ w, _) := l2Mask_any s H L n b hok hn hb
  have hq := hasEq s H L n s H L
  have HK : Hid (∀ w, _) := sAddrOk_any s H.toInt L.toInt
  rw [hok] at HK
  clear hok
  have HI : Hid (∀ w, _) := l1In_any b 0 (wd s)
  rw [hin] at HI
  clear hin
  clear hn hb
  generalize hasB s H L n s H L = B at hq ⊢
  go_enter Tryz.func85, Tryz.ntmps85
  go_wp2_with fail
  go_region_held3 (fun x => x.cell? ⟨w.heap.size, 0, none⟩ = some (.bool s) ∧ x.cell? ⟨w.heap.size, 1, none⟩ = some (.int .i64 H.toInt) ∧ x.cell? ⟨w.heap.size, 2, none⟩ = some (.int .i64 L.toInt) ∧ x.cell? ⟨w.heap.size, 3, none⟩ = some (.int .i64 b)) ((refine four_of_below (W := w.alloc (.cells #[.bool s, .int .i64 H.toInt, .int .i64 L.toInt, .int .i64 b] 66)) (n := w.heap.size + 1) ?_ (by omega) ⟨by simp [go_sem], by simp [go_sem], by simp [go_sem], by simp [go_sem]⟩; repeat (first | with_reducible exact Below.refl _ _ | (with_reducible refine Below.drew ?_) | (with_reducible refine Below.alloc ?_ ?_ _; rotate_left; (focus (first | omega | (simp; omega) | (simp; done)))) | (with_reducible refine Below.setCell ?_ ?_ _; rotate_left; (focus (first | omega | (simp; omega) | (simp; done)))) | (with_reducible refine Below.trans ?_ (hb4.mono ?_); rotate_left; (focus (first | omega | (simp; omega) | (simp; done)))) | (with_reducible refine Below.trans ?_ (hb2.mono ?_); rotate_left; (focus (first | omega | (simp; omega) | (simp; done)))) | (with_reducible refine Below.trans ?_ (hb1.mono ?_); rotate_left; (focus (first | omega | (simp; omega) | (simp; done))))))) (first | (go_at_call 56; refine (HK.out _).mono ?_; rintro e w1 ⟨rfl, hb1⟩; have hz1 := hb1.size; (try simp at hz1); (first | (refine ltk (w.heap.size) (w1.heap.size) ?_ ?_; (focus omega); intro f10) | skip); (refine olds_k (w.heap.size + 1) hb1 ?_ ?_; (focus (first | omega | (simp; omega) | (simp; done))); intro hc1 hf1)) | (go_at_call 107; refine (l2Width_any s H.toInt L.toInt _).mono ?_; rintro e w2 ⟨rfl, hb2⟩; have hz2 := hb2.size; (try simp at hz2); (first | (refine ltk (w.heap.size) (w2.heap.size) ?_ ?_; (focus omega); intro f20) | skip); (refine olds_k (w.heap.size + 1) hb2 ?_ ?_; (focus (first | omega | (simp; omega) | (simp; done))); intro hc2 hf2)) | (go_at_call 87; refine (HI.out _).mono ?_; rintro e w3 ⟨rfl, rfl⟩) | (go_at_call 109; refine (HM.out _).mono ?_; rintro e w4 ⟨rfl, hb4⟩; have hz4 := hb4.size; (try simp at hz4); (first | (refine ltk (w.heap.size) (w4.heap.size) ?_ ?_; (focus omega); intro f40) | skip); (refine olds_k (w.heap.size + 1) hb4 ?_ ?_; (focus (first | omega | (simp; omega) | (simp; done))); intro hc4 hf4)))
  all_goals
    go_wp2_with fail
    go_ret
    refine ⟨rfl, ?_⟩
    repeat (first | with_reducible exact Below.refl _ _ | (with_reducible refine Below.drew ?_) | (with_reducible refine Below.alloc ?_ ?_ _; rotate_left; (focus (first | omega | (simp; omega) | (simp; done)))) | (with_reducible refine Below.setCell ?_ ?_ _; rotate_left; (focus (first | omega | (simp; omega) | (simp; done)))) | (with_reducible refine Below.trans ?_ (hb4.mono ?_); rotate_left; (focus (first | omega | (simp; omega) | (simp; done)))) | (with_reducible refine Below.trans ?_ (hb2.mono ?_); rotate_left; (focus (first | omega | (simp; omega) | (simp; done)))) | (with_reducible refine Below.trans ?_ (hb1.mono ?_); rotate_left; (focus (first | omega | (simp; omega) | (simp; done)))))

theorem sPrefixOk_any (s : Bool) (H L : BitVec 64) (b : Int) (w : World) :
    Calls Tryz.prog 85 #[.agg #[.bool s, .int .i64 H.toInt, .int .i64 L.toInt, .int .i64 b]] w fun e w' => e = .returned (.bool (pokB s H L b)) ∧ Below w.heap.size w w' := by
  cases hok : okB s H.toInt L.toInt
  · rw [show pokB s H L b = false by simp [pokB, hok]]
    exact sPrefixOk_bad s H L b hok w
  · cases hin : decide (0 ≤ b ∧ b ≤ (wd s : Int))
    · rw [show pokB s H L b = false by rw [pokB, hok, hin]; rfl]
      exact sPrefixOk_out s H L b hok hin w
    · have h := of_decide_eq_true hin
      rw [show pokB s H L b = hasB s H L ((wd s : Int) - b).toNat s H L by rw [pokB, hok, hin]; rfl]
      exact sPrefixOk_in s H L b _ hok hin (by omega) (by omega) w

end Go.Proofs.YtngcbhbcocnbeaaGreat
namespace Go.Proofs.YtngcbhbcocnbeaaGreat
open Go.RowKit

theorem pokB_parts {s : Bool} {H L : BitVec 64} {b : Int} (hp : pokB s H L b = true) : okB s H.toInt L.toInt = true ∧ (0 ≤ b ∧ b ≤ (wd s : Int)) ∧ hasB s H L ((wd s : Int) - b).toNat s H L = true := by
  simp only [pokB, Bool.and_eq_true, decide_eq_true_eq] at hp
  exact hp
theorem wrapSub (s : Bool) (b : Int) (h : 0 ≤ b ∧ b ≤ (wd s : Int)) : IntKind.i64.wrap ((wd s : Int) - b) = ((((wd s : Int) - b).toNat : Nat) : Int) := by
  have := wd_le' s
  rw [← w64]; unfold wrap64; omega

theorem spanOf_yes (s : Bool) (H L : BitVec 64) (b : Int) (n : Nat) (hn : (n : Int) = (wd s : Int) - b) (hp : pokB s H L b = true) (w : World) :
    Calls Tryz.prog 143 #[.agg #[.bool s, .int .i64 H.toInt, .int .i64 L.toInt, .int .i64 b]] w fun e w' => e = .returned (.tuple #[.agg #[.bool s, .int .i64 H.toInt, .int .i64 L.toInt, .int .i64 n], .bool true]) ∧ Below w.heap.size w w' := by
  obtain ⟨hok, hb, hh⟩ := pokB_parts hp
  have e : ((wd s : Int) - b).toNat = n := by omega
  rw [e] at hh
  have := wd_le' s
  have hs := wrapSub s b hb
  rw [e] at hs
  exact spanOf_ok s H L b n (by omega) hok hb.1 hb.2 hs hh w

theorem spanOf_no (s : Bool) (H L : BitVec 64) (b : Int) (hp : pokB s H L b = false) (w : World) :
    Calls Tryz.prog 143 #[.agg #[.bool s, .int .i64 H.toInt, .int .i64 L.toInt, .int .i64 b]] w fun e w' => e = .returned (.tuple #[.agg #[.bool false, .int .i64 0, .int .i64 0, .int .i64 0], .bool false]) ∧ Below w.heap.size w w' := by
  cases hok : okB s H.toInt L.toInt
  · exact spanOf_bad s H L b hok w
  · by_cases h0 : b < 0
    · exact spanOf_neg s H L b hok h0 w
    · by_cases h1 : (wd s : Int) < b
      · exact spanOf_big s H L b hok (by omega) h1 w
      · have hb : 0 ≤ b ∧ b ≤ (wd s : Int) := by omega
        have hh : hasB s H L ((wd s : Int) - b).toNat s H L = false := by
          rw [pokB, hok, decide_eq_true hb] at hp
          simpa using hp
        have := wd_le' s
        exact spanOf_off s H L b _ (by omega) hok hb.1 hb.2 (wrapSub s b hb) hh w

end Go.Proofs.YtngcbhbcocnbeaaGreat
namespace Go.Proofs.YtngcbhbcocnbeaaGreat
open Go.RowKit

theorem seven_of_below {W X : World} {n b c : Nat} {v0 v1 v2 v3 u0 u1 u2 : Value} (hB : Below n W X) (hb : b < n) (hc : c < n)
    (k : W.cell? ⟨b, 0, none⟩ = some v0 ∧ W.cell? ⟨b, 1, none⟩ = some v1 ∧ W.cell? ⟨b, 2, none⟩ = some v2 ∧ W.cell? ⟨b, 3, none⟩ = some v3 ∧ W.cell? ⟨c, 0, none⟩ = some u0 ∧ W.cell? ⟨c, 1, none⟩ = some u1 ∧ W.cell? ⟨c, 2, none⟩ = some u2) :
    X.cell? ⟨b, 0, none⟩ = some v0 ∧ X.cell? ⟨b, 1, none⟩ = some v1 ∧ X.cell? ⟨b, 2, none⟩ = some v2 ∧ X.cell? ⟨b, 3, none⟩ = some v3 ∧ X.cell? ⟨c, 0, none⟩ = some u0 ∧ X.cell? ⟨c, 1, none⟩ = some u1 ∧ X.cell? ⟨c, 2, none⟩ = some u2 := by
  obtain ⟨k0, k1, k2, k3, k4, k5, k6⟩ := k
  exact ⟨(hB.cell hb).trans k0, (hB.cell hb).trans k1, (hB.cell hb).trans k2, (hB.cell hb).trans k3, (hB.cell hc).trans k4, (hB.cell hc).trans k5, (hB.cell hc).trans k6⟩

set_option maxHeartbeats 1000000 in
theorem sHasAddr_no (s : Bool) (H L : BitVec 64) (b : Int) (s' : Bool) (H' L' : BitVec 64) (hp : pokB s H L b = false) (w : World) :
    Calls Tryz.prog 89 #[.agg #[.bool s, .int .i64 H.toInt, .int .i64 L.toInt, .int .i64 b], .agg #[.bool s', .int .i64 H'.toInt, .int .i64 L'.toInt]] w fun e w' => e = .returned (.bool false) ∧ Below w.heap.size w w' := by
  have HP : Hid (∀ w, _) := sPrefixOk_any s H L b
  rw [hp] at HP
  clear hp
  go_enter Tryz.func89, Tryz.ntmps89
  go_wp2_with fail
  refine wp_region_held_drew (S := (fun x => x.cell? ⟨w.heap.size, 0, none⟩ = some (.bool s) ∧ x.cell? ⟨w.heap.size, 1, none⟩ = some (.int .i64 H.toInt) ∧ x.cell? ⟨w.heap.size, 2, none⟩ = some (.int .i64 L.toInt) ∧ x.cell? ⟨w.heap.size, 3, none⟩ = some (.int .i64 b) ∧ x.cell? ⟨w.heap.size + 1, 0, none⟩ = some (.bool s') ∧ x.cell? ⟨w.heap.size + 1, 1, none⟩ = some (.int .i64 H'.toInt) ∧ x.cell? ⟨w.heap.size + 1, 2, none⟩ = some (.int .i64 L'.toInt))) (by kernel_rfl) ?_ (fun hHeld => ?_)
  · try dsimp only
    (refine seven_of_below (W := (w.alloc (.cells #[.bool s, .int .i64 H.toInt, .int .i64 L.toInt, .int .i64 b] 66)).alloc (.cells #[.bool s', .int .i64 H'.toInt, .int .i64 L'.toInt] 64)) (n := w.heap.size + 2) ?_ (by omega) (by omega) ⟨by simp [go_sem], by simp [go_sem], by simp [go_sem], by simp [go_sem], by simp [go_sem], by simp [go_sem], by simp [go_sem]⟩; repeat (first | with_reducible exact Below.refl _ _ | (with_reducible refine Below.drew ?_) | (with_reducible refine Below.alloc ?_ ?_ _; rotate_left; (focus (first | omega | (simp; omega) | (simp; done)))) | (with_reducible refine Below.setCell ?_ ?_ _; rotate_left; (focus (first | omega | (simp; omega) | (simp; done))))))
  refine tk 0 5 rfl ?_; simp only [pa]
  refine wpAnyH_ready (rs := [1]) (by kernel_rfl) (by simp) ?_
  refine AllReadyH.cons rfl (fun K hK => ?_) AllReadyH.nil
  go_simp
  go_wp2_with ((go_at_call 85; refine (HP.out _).mono ?_; rintro e w1 ⟨rfl, hb1⟩; have hz1 := hb1.size; (try simp at hz1); (first | (refine ltk (w.heap.size) (w1.heap.size) ?_ ?_; (focus omega); intro f10) | skip); (first | (refine ltk (w.heap.size + 1) (w1.heap.size) ?_ ?_; (focus omega); intro f11) | skip); (refine olds_k (w.heap.size + 2) hb1 ?_ ?_; (focus (first | omega | (simp; omega) | (simp; done))); intro hc1 hf1)))
  refine hK.out _ _ ?_ (fun hHeld => ?_)
  · try dsimp only
    (refine seven_of_below (W := (w.alloc (.cells #[.bool s, .int .i64 H.toInt, .int .i64 L.toInt, .int .i64 b] 66)).alloc (.cells #[.bool s', .int .i64 H'.toInt, .int .i64 L'.toInt] 64)) (n := w.heap.size + 2) ?_ (by omega) (by omega) ⟨by simp [go_sem], by simp [go_sem], by simp [go_sem], by simp [go_sem], by simp [go_sem], by simp [go_sem], by simp [go_sem]⟩; repeat (first | with_reducible exact Below.refl _ _ | (with_reducible refine Below.drew ?_) | (with_reducible refine Below.alloc ?_ ?_ _; rotate_left; (focus (first | omega | (simp; omega) | (simp; done)))) | (with_reducible refine Below.setCell ?_ ?_ _; rotate_left; (focus (first | omega | (simp; omega) | (simp; done)))) | (with_reducible refine Below.trans ?_ (hb1.mono ?_); rotate_left; (focus (first | omega | (simp; omega) | (simp; done))))))
  clear hK K
  refine tk 2 7 rfl ?_; simp only [pa]
  refine sk 3 8 rfl ?_; simp only [pa]
  refine wpAnyH_ready (rs := [4]) (by kernel_rfl) (by simp) ?_
  refine AllReadyH.cons rfl (fun K hK => ?_) AllReadyH.nil
  go_simp
  refine hK.out _ _ ?_ (fun hHeld => ?_)
  · try dsimp only
    (refine seven_of_below (W := (w.alloc (.cells #[.bool s, .int .i64 H.toInt, .int .i64 L.toInt, .int .i64 b] 66)).alloc (.cells #[.bool s', .int .i64 H'.toInt, .int .i64 L'.toInt] 64)) (n := w.heap.size + 2) ?_ (by omega) (by omega) ⟨by simp [go_sem], by simp [go_sem], by simp [go_sem], by simp [go_sem], by simp [go_sem], by simp [go_sem], by simp [go_sem]⟩; repeat (first | with_reducible exact Below.refl _ _ | (with_reducible refine Below.drew ?_) | (with_reducible refine Below.alloc ?_ ?_ _; rotate_left; (focus (first | omega | (simp; omega) | (simp; done)))) | (with_reducible refine Below.setCell ?_ ?_ _; rotate_left; (focus (first | omega | (simp; omega) | (simp; done)))) | (with_reducible refine Below.trans ?_ (hb1.mono ?_); rotate_left; (focus (first | omega | (simp; omega) | (simp; done))))))
  clear hK K
  refine tk 5 10 rfl ?_; simp only [pa]
  refine tk 6 11 rfl ?_; simp only [pa]
  refine sk 7 12 rfl ?_; simp only [pa]
  refine sk 8 13 rfl ?_; simp only [pa]
  refine sk 9 14 rfl ?_; simp only [pa]
  refine sk 10 15 rfl ?_; simp only [pa]
  refine sk 11 16 rfl ?_; simp only [pa]
  refine sk 12 17 rfl ?_; simp only [pa]
  refine tk 13 18 rfl ?_; simp only [pa]
  refine tk 14 19 rfl ?_; simp only [pa]
  refine sk 15 20 rfl ?_; simp only [pa]
  refine sk 16 21 rfl ?_; simp only [pa]
  refine sk 17 22 rfl ?_; simp only [pa]
  refine sk 19 24 rfl ?_; simp only [pa]
  refine sk 20 25 rfl ?_; simp only [pa]
  refine wpAnyH_ready (rs := [18]) (by kernel_rfl) (by simp) ?_
  refine AllReadyH.cons rfl (fun K hK => ?_) AllReadyH.nil
  go_simp
  refine hK.out _ _ ?_ (fun hHeld => ?_)
  · try dsimp only
    (refine seven_of_below (W := (w.alloc (.cells #[.bool s, .int .i64 H.toInt, .int .i64 L.toInt, .int .i64 b] 66)).alloc (.cells #[.bool s', .int .i64 H'.toInt, .int .i64 L'.toInt] 64)) (n := w.heap.size + 2) ?_ (by omega) (by omega) ⟨by simp [go_sem], by simp [go_sem], by simp [go_sem], by simp [go_sem], by simp [go_sem], by simp [go_sem], by simp [go_sem]⟩; repeat (first | with_reducible exact Below.refl _ _ | (with_reducible refine Below.drew ?_) | (with_reducible refine Below.alloc ?_ ?_ _; rotate_left; (focus (first | omega | (simp; omega) | (simp; done)))) | (with_reducible refine Below.setCell ?_ ?_ _; rotate_left; (focus (first | omega | (simp; omega) | (simp; done)))) | (with_reducible refine Below.trans ?_ (hb1.mono ?_); rotate_left; (focus (first | omega | (simp; omega) | (simp; done))))))
  clear hK K
  refine sk 21 26 rfl ?_; simp only [pa]
  refine tk 22 27 rfl ?_; simp only [pa]
  refine tk 23 4 rfl ?_; simp only [pa]
  refine wpAnyH_done (by kernel_rfl) ?_ _
  go_wp2_with fail
  go_ret
  refine ⟨rfl, ?_⟩
  repeat (first | with_reducible exact Below.refl _ _ | (with_reducible refine Below.drew ?_) | (with_reducible refine Below.alloc ?_ ?_ _; rotate_left; (focus (first | omega | (simp; omega) | (simp; done)))) | (with_reducible refine Below.setCell ?_ ?_ _; rotate_left; (focus (first | omega | (simp; omega) | (simp; done)))) | (with_reducible refine Below.trans ?_ (hb1.mono ?_); rotate_left; (focus (first | omega | (simp; omega) | (simp; done)))))

set_option maxHeartbeats 1000000 in
theorem sHasAddr_bad (s : Bool) (H L : BitVec 64) (b : Int) (s' : Bool) (H' L' : BitVec 64) (hp : pokB s H L b = true) (hok : okB s' H'.toInt L'.toInt = false) (w : World) :
    Calls Tryz.prog 89 #[.agg #[.bool s, .int .i64 H.toInt, .int .i64 L.toInt, .int .i64 b], .agg #[.bool s', .int .i64 H'.toInt, .int .i64 L'.toInt]] w fun e w' => e = .returned (.bool false) ∧ Below w.heap.size w w' := by
  have HP : Hid (∀ w, _) := sPrefixOk_any s H L b
  rw [hp] at HP
  clear hp
  have HK : Hid (∀ w, _) := sAddrOk_any s' H'.toInt L'.toInt
  rw [hok] at HK
  clear hok
  go_enter Tryz.func89, Tryz.ntmps89
  go_wp2_with fail
  refine wp_region_held_drew (S := (fun x => x.cell? ⟨w.heap.size, 0, none⟩ = some (.bool s) ∧ x.cell? ⟨w.heap.size, 1, none⟩ = some (.int .i64 H.toInt) ∧ x.cell? ⟨w.heap.size, 2, none⟩ = some (.int .i64 L.toInt) ∧ x.cell? ⟨w.heap.size, 3, none⟩ = some (.int .i64 b) ∧ x.cell? ⟨w.heap.size + 1, 0, none⟩ = some (.bool s') ∧ x.cell? ⟨w.heap.size + 1, 1, none⟩ = some (.int .i64 H'.toInt) ∧ x.cell? ⟨w.heap.size + 1, 2, none⟩ = some (.int .i64 L'.toInt))) (by kernel_rfl) ?_ (fun hHeld => ?_)
  · try dsimp only
    (refine seven_of_below (W := (w.alloc (.cells #[.bool s, .int .i64 H.toInt, .int .i64 L.toInt, .int .i64 b] 66)).alloc (.cells #[.bool s', .int .i64 H'.toInt, .int .i64 L'.toInt] 64)) (n := w.heap.size + 2) ?_ (by omega) (by omega) ⟨by simp [go_sem], by simp [go_sem], by simp [go_sem], by simp [go_sem], by simp [go_sem], by simp [go_sem], by simp [go_sem]⟩; repeat (first | with_reducible exact Below.refl _ _ | (with_reducible refine Below.drew ?_) | (with_reducible refine Below.alloc ?_ ?_ _; rotate_left; (focus (first | omega | (simp; omega) | (simp; done)))) | (with_reducible refine Below.setCell ?_ ?_ _; rotate_left; (focus (first | omega | (simp; omega) | (simp; done))))))
  refine tk 0 5 rfl ?_; simp only [pa]
  refine wpAnyH_ready (rs := [1]) (by kernel_rfl) (by simp) ?_
  refine AllReadyH.cons rfl (fun K hK => ?_) AllReadyH.nil
  go_simp
  go_wp2_with ((go_at_call 85; refine (HP.out _).mono ?_; rintro e w1 ⟨rfl, hb1⟩; have hz1 := hb1.size; (try simp at hz1); (first | (refine ltk (w.heap.size) (w1.heap.size) ?_ ?_; (focus omega); intro f10) | skip); (first | (refine ltk (w.heap.size + 1) (w1.heap.size) ?_ ?_; (focus omega); intro f11) | skip); (refine olds_k (w.heap.size + 2) hb1 ?_ ?_; (focus (first | omega | (simp; omega) | (simp; done))); intro hc1 hf1)))
  refine hK.out _ _ ?_ (fun hHeld => ?_)
  · try dsimp only
    (refine seven_of_below (W := (w.alloc (.cells #[.bool s, .int .i64 H.toInt, .int .i64 L.toInt, .int .i64 b] 66)).alloc (.cells #[.bool s', .int .i64 H'.toInt, .int .i64 L'.toInt] 64)) (n := w.heap.size + 2) ?_ (by omega) (by omega) ⟨by simp [go_sem], by simp [go_sem], by simp [go_sem], by simp [go_sem], by simp [go_sem], by simp [go_sem], by simp [go_sem]⟩; repeat (first | with_reducible exact Below.refl _ _ | (with_reducible refine Below.drew ?_) | (with_reducible refine Below.alloc ?_ ?_ _; rotate_left; (focus (first | omega | (simp; omega) | (simp; done)))) | (with_reducible refine Below.setCell ?_ ?_ _; rotate_left; (focus (first | omega | (simp; omega) | (simp; done)))) | (with_reducible refine Below.trans ?_ (hb1.mono ?_); rotate_left; (focus (first | omega | (simp; omega) | (simp; done))))))
  clear hK K
  refine tk 2 7 rfl ?_; simp only [pa]
  refine tk 3 8 rfl ?_; simp only [pa]
  refine wpAnyH_ready (rs := [4]) (by kernel_rfl) (by simp) ?_
  refine AllReadyH.cons rfl (fun K hK => ?_) AllReadyH.nil
  go_simp
  go_wp2_with ((go_at_call 56; refine (HK.out _).mono ?_; rintro e w2 ⟨rfl, hb2⟩; have hz2 := hb2.size; (try simp at hz2); (first | (refine ltk (w.heap.size) (w2.heap.size) ?_ ?_; (focus omega); intro f20) | skip); (first | (refine ltk (w.heap.size + 1) (w2.heap.size) ?_ ?_; (focus omega); intro f21) | skip); (refine olds_k (w.heap.size + 2) hb2 ?_ ?_; (focus (first | omega | (simp; omega) | (simp; done))); intro hc2 hf2)))
  refine hK.out _ _ ?_ (fun hHeld => ?_)
  · try dsimp only
    (refine seven_of_below (W := (w.alloc (.cells #[.bool s, .int .i64 H.toInt, .int .i64 L.toInt, .int .i64 b] 66)).alloc (.cells #[.bool s', .int .i64 H'.toInt, .int .i64 L'.toInt] 64)) (n := w.heap.size + 2) ?_ (by omega) (by omega) ⟨by simp [go_sem], by simp [go_sem], by simp [go_sem], by simp [go_sem], by simp [go_sem], by simp [go_sem], by simp [go_sem]⟩; repeat (first | with_reducible exact Below.refl _ _ | (with_reducible refine Below.drew ?_) | (with_reducible refine Below.alloc ?_ ?_ _; rotate_left; (focus (first | omega | (simp; omega) | (simp; done)))) | (with_reducible refine Below.setCell ?_ ?_ _; rotate_left; (focus (first | omega | (simp; omega) | (simp; done)))) | (with_reducible refine Below.trans ?_ (hb2.mono ?_); rotate_left; (focus (first | omega | (simp; omega) | (simp; done)))) | (with_reducible refine Below.trans ?_ (hb1.mono ?_); rotate_left; (focus (first | omega | (simp; omega) | (simp; done))))))
  clear hK K
  refine tk 5 10 rfl ?_; simp only [pa]
  refine tk 6 11 rfl ?_; simp only [pa]
  refine sk 7 12 rfl ?_; simp only [pa]
  refine sk 8 13 rfl ?_; simp only [pa]
  refine sk 9 14 rfl ?_; simp only [pa]
  refine sk 10 15 rfl ?_; simp only [pa]
  refine sk 11 16 rfl ?_; simp only [pa]
  refine sk 12 17 rfl ?_; simp only [pa]
  refine tk 13 18 rfl ?_; simp only [pa]
  refine tk 14 19 rfl ?_; simp only [pa]
  refine sk 15 20 rfl ?_; simp only [pa]
  refine sk 16 21 rfl ?_; simp only [pa]
  refine sk 17 22 rfl ?_; simp only [pa]
  refine sk 19 24 rfl ?_; simp only [pa]
  refine sk 20 25 rfl ?_; simp only [pa]
  refine wpAnyH_ready (rs := [18]) (by kernel_rfl) (by simp) ?_
  refine AllReadyH.cons rfl (fun K hK => ?_) AllReadyH.nil
  go_simp
  refine hK.out _ _ ?_ (fun hHeld => ?_)
  · try dsimp only
    (refine seven_of_below (W := (w.alloc (.cells #[.bool s, .int .i64 H.toInt, .int .i64 L.toInt, .int .i64 b] 66)).alloc (.cells #[.bool s', .int .i64 H'.toInt, .int .i64 L'.toInt] 64)) (n := w.heap.size + 2) ?_ (by omega) (by omega) ⟨by simp [go_sem], by simp [go_sem], by simp [go_sem], by simp [go_sem], by simp [go_sem], by simp [go_sem], by simp [go_sem]⟩; repeat (first | with_reducible exact Below.refl _ _ | (with_reducible refine Below.drew ?_) | (with_reducible refine Below.alloc ?_ ?_ _; rotate_left; (focus (first | omega | (simp; omega) | (simp; done)))) | (with_reducible refine Below.setCell ?_ ?_ _; rotate_left; (focus (first | omega | (simp; omega) | (simp; done)))) | (with_reducible refine Below.trans ?_ (hb2.mono ?_); rotate_left; (focus (first | omega | (simp; omega) | (simp; done)))) | (with_reducible refine Below.trans ?_ (hb1.mono ?_); rotate_left; (focus (first | omega | (simp; omega) | (simp; done))))))
  clear hK K
  refine sk 21 26 rfl ?_; simp only [pa]
  refine tk 22 27 rfl ?_; simp only [pa]
  refine tk 23 4 rfl ?_; simp only [pa]
  refine wpAnyH_done (by kernel_rfl) ?_ _
  go_wp2_with fail
  go_ret
  refine ⟨rfl, ?_⟩
  repeat (first | with_reducible exact Below.refl _ _ | (with_reducible refine Below.drew ?_) | (with_reducible refine Below.alloc ?_ ?_ _; rotate_left; (focus (first | omega | (simp; omega) | (simp; done)))) | (with_reducible refine Below.setCell ?_ ?_ _; rotate_left; (focus (first | omega | (simp; omega) | (simp; done)))) | (with_reducible refine Below.trans ?_ (hb2.mono ?_); rotate_left; (focus (first | omega | (simp; omega) | (simp; done)))) | (with_reducible refine Below.trans ?_ (hb1.mono ?_); rotate_left; (focus (first | omega | (simp; omega) | (simp; done)))))

end Go.Proofs.YtngcbhbcocnbeaaGreat
namespace Go.Proofs.YtngcbhbcocnbeaaGreat
open Go.RowKit

set_option maxHeartbeats 1000000 in
theorem sHasAddr_ft (H L : BitVec 64) (b : Int) (H' L' : BitVec 64) (hp : pokB false H L b = true) (hok : okB true H'.toInt L'.toInt = true) (w : World) :
    Calls Tryz.prog 89 #[.agg #[.bool false, .int .i64 H.toInt, .int .i64 L.toInt, .int .i64 b], .agg #[.bool true, .int .i64 H'.toInt, .int .i64 L'.toInt]] w fun e w' => e = .returned (.bool false) ∧ Below w.heap.size w w' := by
  have HP : Hid (∀ w, _) := sPrefixOk_any false H L b
  rw [hp] at HP
  clear hp
  have HK : Hid (∀ w, _) := sAddrOk_any true H'.toInt L'.toInt
  rw [hok] at HK
  clear hok
  go_enter Tryz.func89, Tryz.ntmps89
  go_wp2_with fail
  refine wp_region_held_drew (S := (fun x => x.cell? ⟨w.heap.size, 0, none⟩ = some (.bool false) ∧ x.cell? ⟨w.heap.size, 1, none⟩ = some (.int .i64 H.toInt) ∧ x.cell? ⟨w.heap.size, 2, none⟩ = some (.int .i64 L.toInt) ∧ x.cell? ⟨w.heap.size, 3, none⟩ = some (.int .i64 b) ∧ x.cell? ⟨w.heap.size + 1, 0, none⟩ = some (.bool true) ∧ x.cell? ⟨w.heap.size + 1, 1, none⟩ = some (.int .i64 H'.toInt) ∧ x.cell? ⟨w.heap.size + 1, 2, none⟩ = some (.int .i64 L'.toInt))) (by kernel_rfl) ?_ (fun hHeld => ?_)
  · try dsimp only
    (refine seven_of_below (W := (w.alloc (.cells #[.bool false, .int .i64 H.toInt, .int .i64 L.toInt, .int .i64 b] 66)).alloc (.cells #[.bool true, .int .i64 H'.toInt, .int .i64 L'.toInt] 64)) (n := w.heap.size + 2) ?_ (by omega) (by omega) ⟨by simp [go_sem], by simp [go_sem], by simp [go_sem], by simp [go_sem], by simp [go_sem], by simp [go_sem], by simp [go_sem]⟩; repeat (first | with_reducible exact Below.refl _ _ | (with_reducible refine Below.drew ?_) | (with_reducible refine Below.alloc ?_ ?_ _; rotate_left; (focus (first | omega | (simp; omega) | (simp; done)))) | (with_reducible refine Below.setCell ?_ ?_ _; rotate_left; (focus (first | omega | (simp; omega) | (simp; done))))))
  refine tk 0 5 rfl ?_; simp only [pa]
  refine wpAnyH_ready (rs := [1]) (by kernel_rfl) (by simp) ?_
  refine AllReadyH.cons rfl (fun K hK => ?_) AllReadyH.nil
  go_simp
  go_wp2_with ((go_at_call 85; refine (HP.out _).mono ?_; rintro e w1 ⟨rfl, hb1⟩; have hz1 := hb1.size; (try simp at hz1); (first | (refine ltk (w.heap.size) (w1.heap.size) ?_ ?_; (focus omega); intro f10) | skip); (first | (refine ltk (w.heap.size + 1) (w1.heap.size) ?_ ?_; (focus omega); intro f11) | skip); (refine olds_k (w.heap.size + 2) hb1 ?_ ?_; (focus (first | omega | (simp; omega) | (simp; done))); intro hc1 hf1)))
  refine hK.out _ _ ?_ (fun hHeld => ?_)
  · try dsimp only
    (refine seven_of_below (W := (w.alloc (.cells #[.bool false, .int .i64 H.toInt, .int .i64 L.toInt, .int .i64 b] 66)).alloc (.cells #[.bool true, .int .i64 H'.toInt, .int .i64 L'.toInt] 64)) (n := w.heap.size + 2) ?_ (by omega) (by omega) ⟨by simp [go_sem], by simp [go_sem], by simp [go_sem], by simp [go_sem], by simp [go_sem], by simp [go_sem], by simp [go_sem]⟩; repeat (first | with_reducible exact Below.refl _ _ | (with_reducible refine Below.drew ?_) | (with_reducible refine Below.alloc ?_ ?_ _; rotate_left; (focus (first | omega | (simp; omega) | (simp; done)))) | (with_reducible refine Below.setCell ?_ ?_ _; rotate_left; (focus (first | omega | (simp; omega) | (simp; done)))) | (with_reducible refine Below.trans ?_ (hb1.mono ?_); rotate_left; (focus (first | omega | (simp; omega) | (simp; done))))))
  clear hK K
  refine tk 2 7 rfl ?_; simp only [pa]
  refine tk 3 8 rfl ?_; simp only [pa]
  refine wpAnyH_ready (rs := [4]) (by kernel_rfl) (by simp) ?_
  refine AllReadyH.cons rfl (fun K hK => ?_) AllReadyH.nil
  go_simp
  go_wp2_with ((go_at_call 56; refine (HK.out _).mono ?_; rintro e w2 ⟨rfl, hb2⟩; have hz2 := hb2.size; (try simp at hz2); (first | (refine ltk (w.heap.size) (w2.heap.size) ?_ ?_; (focus omega); intro f20) | skip); (first | (refine ltk (w.heap.size + 1) (w2.heap.size) ?_ ?_; (focus omega); intro f21) | skip); (refine olds_k (w.heap.size + 2) hb2 ?_ ?_; (focus (first | omega | (simp; omega) | (simp; done))); intro hc2 hf2)))
  refine hK.out _ _ ?_ (fun hHeld => ?_)
  · try dsimp only
    (refine seven_of_below (W := (w.alloc (.cells #[.bool false, .int .i64 H.toInt, .int .i64 L.toInt, .int .i64 b] 66)).alloc (.cells #[.bool true, .int .i64 H'.toInt, .int .i64 L'.toInt] 64)) (n := w.heap.size + 2) ?_ (by omega) (by omega) ⟨by simp [go_sem], by simp [go_sem], by simp [go_sem], by simp [go_sem], by simp [go_sem], by simp [go_sem], by simp [go_sem]⟩; repeat (first | with_reducible exact Below.refl _ _ | (with_reducible refine Below.drew ?_) | (with_reducible refine Below.alloc ?_ ?_ _; rotate_left; (focus (first | omega | (simp; omega) | (simp; done)))) | (with_reducible refine Below.setCell ?_ ?_ _; rotate_left; (focus (first | omega | (simp; omega) | (simp; done)))) | (with_reducible refine Below.trans ?_ (hb2.mono ?_); rotate_left; (focus (first | omega | (simp; omega) | (simp; done)))) | (with_reducible refine Below.trans ?_ (hb1.mono ?_); rotate_left; (focus (first | omega | (simp; omega) | (simp; done))))))
  clear hK K
  refine tk 5 10 rfl ?_; simp only [pa]
  refine tk 6 11 rfl ?_; simp only [pa]
  refine tk 7 12 rfl ?_; simp only [pa]
  refine tk 8 13 rfl ?_; simp only [pa]
  refine tk 9 14 rfl ?_; simp only [pa]
  refine tk 10 15 rfl ?_; simp only [pa]
  refine tk 11 16 rfl ?_; simp only [pa]
  refine tk 12 17 rfl ?_; simp only [pa]
  refine tk 13 18 rfl ?_; simp only [pa]
  refine tk 14 19 rfl ?_; simp only [pa]
  refine sk 15 20 rfl ?_; simp only [pa]
  refine sk 16 21 rfl ?_; simp only [pa]
  refine sk 17 22 rfl ?_; simp only [pa]
  refine sk 19 24 rfl ?_; simp only [pa]
  refine sk 20 25 rfl ?_; simp only [pa]
  refine wpAnyH_ready (rs := [18]) (by kernel_rfl) (by simp) ?_
  refine AllReadyH.cons rfl (fun K hK => ?_) AllReadyH.nil
  go_simp
  refine hK.out _ _ ?_ (fun hHeld => ?_)
  · try dsimp only
    (refine seven_of_below (W := (w.alloc (.cells #[.bool false, .int .i64 H.toInt, .int .i64 L.toInt, .int .i64 b] 66)).alloc (.cells #[.bool true, .int .i64 H'.toInt, .int .i64 L'.toInt] 64)) (n := w.heap.size + 2) ?_ (by omega) (by omega) ⟨by simp [go_sem], by simp [go_sem], by simp [go_sem], by simp [go_sem], by simp [go_sem], by simp [go_sem], by simp [go_sem]⟩; repeat (first | with_reducible exact Below.refl _ _ | (with_reducible refine Below.drew ?_) | (with_reducible refine Below.alloc ?_ ?_ _; rotate_left; (focus (first | omega | (simp; omega) | (simp; done)))) | (with_reducible refine Below.setCell ?_ ?_ _; rotate_left; (focus (first | omega | (simp; omega) | (simp; done)))) | (with_reducible refine Below.trans ?_ (hb2.mono ?_); rotate_left; (focus (first | omega | (simp; omega) | (simp; done)))) | (with_reducible refine Below.trans ?_ (hb1.mono ?_); rotate_left; (focus (first | omega | (simp; omega) | (simp; done))))))
  clear hK K
  refine sk 21 26 rfl ?_; simp only [pa]
  refine tk 22 27 rfl ?_; simp only [pa]
  refine tk 23 4 rfl ?_; simp only [pa]
  refine wpAnyH_done (by kernel_rfl) ?_ _
  go_wp2_with fail
  go_ret
  refine ⟨rfl, ?_⟩
  repeat (first | with_reducible exact Below.refl _ _ | (with_reducible refine Below.drew ?_) | (with_reducible refine Below.alloc ?_ ?_ _; rotate_left; (focus (first | omega | (simp; omega) | (simp; done)))) | (with_reducible refine Below.setCell ?_ ?_ _; rotate_left; (focus (first | omega | (simp; omega) | (simp; done)))) | (with_reducible refine Below.trans ?_ (hb2.mono ?_); rotate_left; (focus (first | omega | (simp; omega) | (simp; done)))) | (with_reducible refine Below.trans ?_ (hb1.mono ?_); rotate_left; (focus (first | omega | (simp; omega) | (simp; done)))))

set_option maxHeartbeats 1000000 in
theorem sHasAddr_tf (H L : BitVec 64) (b : Int) (H' L' : BitVec 64) (hp : pokB true H L b = true) (hok : okB false H'.toInt L'.toInt = true) (w : World) :
    Calls Tryz.prog 89 #[.agg #[.bool true, .int .i64 H.toInt, .int .i64 L.toInt, .int .i64 b], .agg #[.bool false, .int .i64 H'.toInt, .int .i64 L'.toInt]] w fun e w' => e = .returned (.bool false) ∧ Below w.heap.size w w' := by
  have HP : Hid (∀ w, _) := sPrefixOk_any true H L b
  rw [hp] at HP
  clear hp
  have HK : Hid (∀ w, _) := sAddrOk_any false H'.toInt L'.toInt
  rw [hok] at HK
  clear hok
  go_enter Tryz.func89, Tryz.ntmps89
  go_wp2_with fail
  refine wp_region_held_drew (S := (fun x => x.cell? ⟨w.heap.size, 0, none⟩ = some (.bool true) ∧ x.cell? ⟨w.heap.size, 1, none⟩ = some (.int .i64 H.toInt) ∧ x.cell? ⟨w.heap.size, 2, none⟩ = some (.int .i64 L.toInt) ∧ x.cell? ⟨w.heap.size, 3, none⟩ = some (.int .i64 b) ∧ x.cell? ⟨w.heap.size + 1, 0, none⟩ = some (.bool false) ∧ x.cell? ⟨w.heap.size + 1, 1, none⟩ = some (.int .i64 H'.toInt) ∧ x.cell? ⟨w.heap.size + 1, 2, none⟩ = some (.int .i64 L'.toInt))) (by kernel_rfl) ?_ (fun hHeld => ?_)
  · try dsimp only
    (refine seven_of_below (W := (w.alloc (.cells #[.bool true, .int .i64 H.toInt, .int .i64 L.toInt, .int .i64 b] 66)).alloc (.cells #[.bool false, .int .i64 H'.toInt, .int .i64 L'.toInt] 64)) (n := w.heap.size + 2) ?_ (by omega) (by omega) ⟨by simp [go_sem], by simp [go_sem], by simp [go_sem], by simp [go_sem], by simp [go_sem], by simp [go_sem], by simp [go_sem]⟩; repeat (first | with_reducible exact Below.refl _ _ | (with_reducible refine Below.drew ?_) | (with_reducible refine Below.alloc ?_ ?_ _; rotate_left; (focus (first | omega | (simp; omega) | (simp; done)))) | (with_reducible refine Below.setCell ?_ ?_ _; rotate_left; (focus (first | omega | (simp; omega) | (simp; done))))))
  refine tk 0 5 rfl ?_; simp only [pa]
  refine wpAnyH_ready (rs := [1]) (by kernel_rfl) (by simp) ?_
  refine AllReadyH.cons rfl (fun K hK => ?_) AllReadyH.nil
  go_simp
  go_wp2_with ((go_at_call 85; refine (HP.out _).mono ?_; rintro e w1 ⟨rfl, hb1⟩; have hz1 := hb1.size; (try simp at hz1); (first | (refine ltk (w.heap.size) (w1.heap.size) ?_ ?_; (focus omega); intro f10) | skip); (first | (refine ltk (w.heap.size + 1) (w1.heap.size) ?_ ?_; (focus omega); intro f11) | skip); (refine olds_k (w.heap.size + 2) hb1 ?_ ?_; (focus (first | omega | (simp; omega) | (simp; done))); intro hc1 hf1)))
  refine hK.out _ _ ?_ (fun hHeld => ?_)
  · try dsimp only
    (refine seven_of_below (W := (w.alloc (.cells #[.bool true, .int .i64 H.toInt, .int .i64 L.toInt, .int .i64 b] 66)).alloc (.cells #[.bool false, .int .i64 H'.toInt, .int .i64 L'.toInt] 64)) (n := w.heap.size + 2) ?_ (by omega) (by omega) ⟨by simp [go_sem], by simp [go_sem], by simp [go_sem], by simp [go_sem], by simp [go_sem], by simp [go_sem], by simp [go_sem]⟩; repeat (first | with_reducible exact Below.refl _ _ | (with_reducible refine Below.drew ?_) | (with_reducible refine Below.alloc ?_ ?_ _; rotate_left; (focus (first | omega | (simp; omega) | (simp; done)))) | (with_reducible refine Below.setCell ?_ ?_ _; rotate_left; (focus (first | omega | (simp; omega) | (simp; done)))) | (with_reducible refine Below.trans ?_ (hb1.mono ?_); rotate_left; (focus (first | omega | (simp; omega) | (simp; done))))))
  clear hK K
  refine tk 2 7 rfl ?_; simp only [pa]
  refine tk 3 8 rfl ?_; simp only [pa]
  refine wpAnyH_ready (rs := [4]) (by kernel_rfl) (by simp) ?_
  refine AllReadyH.cons rfl (fun K hK => ?_) AllReadyH.nil
  go_simp
  go_wp2_with ((go_at_call 56; refine (HK.out _).mono ?_; rintro e w2 ⟨rfl, hb2⟩; have hz2 := hb2.size; (try simp at hz2); (first | (refine ltk (w.heap.size) (w2.heap.size) ?_ ?_; (focus omega); intro f20) | skip); (first | (refine ltk (w.heap.size + 1) (w2.heap.size) ?_ ?_; (focus omega); intro f21) | skip); (refine olds_k (w.heap.size + 2) hb2 ?_ ?_; (focus (first | omega | (simp; omega) | (simp; done))); intro hc2 hf2)))
  refine hK.out _ _ ?_ (fun hHeld => ?_)
  · try dsimp only
    (refine seven_of_below (W := (w.alloc (.cells #[.bool true, .int .i64 H.toInt, .int .i64 L.toInt, .int .i64 b] 66)).alloc (.cells #[.bool false, .int .i64 H'.toInt, .int .i64 L'.toInt] 64)) (n := w.heap.size + 2) ?_ (by omega) (by omega) ⟨by simp [go_sem], by simp [go_sem], by simp [go_sem], by simp [go_sem], by simp [go_sem], by simp [go_sem], by simp [go_sem]⟩; repeat (first | with_reducible exact Below.refl _ _ | (with_reducible refine Below.drew ?_) | (with_reducible refine Below.alloc ?_ ?_ _; rotate_left; (focus (first | omega | (simp; omega) | (simp; done)))) | (with_reducible refine Below.setCell ?_ ?_ _; rotate_left; (focus (first | omega | (simp; omega) | (simp; done)))) | (with_reducible refine Below.trans ?_ (hb2.mono ?_); rotate_left; (focus (first | omega | (simp; omega) | (simp; done)))) | (with_reducible refine Below.trans ?_ (hb1.mono ?_); rotate_left; (focus (first | omega | (simp; omega) | (simp; done))))))
  clear hK K
  refine tk 5 10 rfl ?_; simp only [pa]
  refine tk 6 11 rfl ?_; simp only [pa]
  refine tk 7 12 rfl ?_; simp only [pa]
  refine tk 8 13 rfl ?_; simp only [pa]
  refine tk 9 14 rfl ?_; simp only [pa]
  refine tk 10 15 rfl ?_; simp only [pa]
  refine tk 11 16 rfl ?_; simp only [pa]
  refine tk 12 17 rfl ?_; simp only [pa]
  refine tk 13 18 rfl ?_; simp only [pa]
  refine tk 14 19 rfl ?_; simp only [pa]
  refine sk 15 20 rfl ?_; simp only [pa]
  refine sk 16 21 rfl ?_; simp only [pa]
  refine sk 17 22 rfl ?_; simp only [pa]
  refine sk 19 24 rfl ?_; simp only [pa]
  refine sk 20 25 rfl ?_; simp only [pa]
  refine wpAnyH_ready (rs := [18]) (by kernel_rfl) (by simp) ?_
  refine AllReadyH.cons rfl (fun K hK => ?_) AllReadyH.nil
  go_simp
  refine hK.out _ _ ?_ (fun hHeld => ?_)
  · try dsimp only
    (refine seven_of_below (W := (w.alloc (.cells #[.bool true, .int .i64 H.toInt, .int .i64 L.toInt, .int .i64 b] 66)).alloc (.cells #[.bool false, .int .i64 H'.toInt, .int .i64 L'.toInt] 64)) (n := w.heap.size + 2) ?_ (by omega) (by omega) ⟨by simp [go_sem], by simp [go_sem], by simp [go_sem], by simp [go_sem], by simp [go_sem], by simp [go_sem], by simp [go_sem]⟩; repeat (first | with_reducible exact Below.refl _ _ | (with_reducible refine Below.drew ?_) | (with_reducible refine Below.alloc ?_ ?_ _; rotate_left; (focus (first | omega | (simp; omega) | (simp; done)))) | (with_reducible refine Below.setCell ?_ ?_ _; rotate_left; (focus (first | omega | (simp; omega) | (simp; done)))) | (with_reducible refine Below.trans ?_ (hb2.mono ?_); rotate_left; (focus (first | omega | (simp; omega) | (simp; done)))) | (with_reducible refine Below.trans ?_ (hb1.mono ?_); rotate_left; (focus (first | omega | (simp; omega) | (simp; done))))))
  clear hK K
  refine sk 21 26 rfl ?_; simp only [pa]
  refine tk 22 27 rfl ?_; simp only [pa]
  refine tk 23 4 rfl ?_; simp only [pa]
  refine wpAnyH_done (by kernel_rfl) ?_ _
  go_wp2_with fail
  go_ret
  refine ⟨rfl, ?_⟩
  repeat (first | with_reducible exact Below.refl _ _ | (with_reducible refine Below.drew ?_) | (with_reducible refine Below.alloc ?_ ?_ _; rotate_left; (focus (first | omega | (simp; omega) | (simp; done)))) | (with_reducible refine Below.setCell ?_ ?_ _; rotate_left; (focus (first | omega | (simp; omega) | (simp; done)))) | (with_reducible refine Below.trans ?_ (hb2.mono ?_); rotate_left; (focus (first | omega | (simp; omega) | (simp; done)))) | (with_reducible refine Below.trans ?_ (hb1.mono ?_); rotate_left; (focus (first | omega | (simp; omega) | (simp; done)))))

set_option maxHeartbeats 1000000 in
theorem sHasAddr_same (s : Bool) (H L : BitVec 64) (b : Int) (n : Nat) (H' L' : BitVec 64) (hp : pokB s H L b = true) (hok : okB s H'.toInt L'.toInt = true) (hn : n ≤ wd s) (hb : b = (wd s : Int) - (n : Int)) (w : World) :
    Calls Tryz.prog 89 #[.agg #[.bool s, .int .i64 H.toInt, .int .i64 L.toInt, .int .i64 b], .agg #[.bool s, .int .i64 H'.toInt, .int .i64 L'.toInt]] w fun e w' => e = .returned (.bool (hasB s H L n s H' L')) ∧ Below w.heap.size w w' := by
  have HM : Hid (∀ w, _) := l2Mask_any s H' L' n b hok hn hb
  have hq := hasEq s H L n s H' L'
  have HP : Hid (∀ w, _) := sPrefixOk_any s H L b
  rw [hp] at HP
  clear hp
  have HK : Hid (∀ w, _) := sAddrOk_any s H'.toInt L'.toInt
  rw [hok] at HK
  clear hok
  clear hn hb
  generalize hasB s H L n s H' L' = B at hq ⊢
  go_enter Tryz.func89, Tryz.ntmps89
  go_wp2_with fail
  go_region_held3 (fun x => x.cell? ⟨w.heap.size, 0, none⟩ = some (.bool s) ∧ x.cell? ⟨w.heap.size, 1, none⟩ = some (.int .i64 H.toInt) ∧ x.cell? ⟨w.heap.size, 2, none⟩ = some (.int .i64 L.toInt) ∧ x.cell? ⟨w.heap.size, 3, none⟩ = some (.int .i64 b) ∧ x.cell? ⟨w.heap.size + 1, 0, none⟩ = some (.bool s) ∧ x.cell? ⟨w.heap.size + 1, 1, none⟩ = some (.int .i64 H'.toInt) ∧ x.cell? ⟨w.heap.size + 1, 2, none⟩ = some (.int .i64 L'.toInt)) ((refine seven_of_below (W := (w.alloc (.cells #[.bool s, .int .i64 H.toInt, .int .i64 L.toInt, .int .i64 b] 66)).alloc (.cells #[.bool s, .int .i64 H'.toInt, .int .i64 L'.toInt] 64)) (n := w.heap.size + 2) ?_ (by omega) (by omega) ⟨by simp [go_sem], by simp [go_sem], by simp [go_sem], by simp [go_sem], by simp [go_sem], by simp [go_sem], by simp [go_sem]⟩; repeat (first | with_reducible exact Below.refl _ _ | (with_reducible refine Below.drew ?_) | (with_reducible refine Below.alloc ?_ ?_ _; rotate_left; (focus (first | omega | (simp; omega) | (simp; done)))) | (with_reducible refine Below.setCell ?_ ?_ _; rotate_left; (focus (first | omega | (simp; omega) | (simp; done)))) | (with_reducible refine Below.trans ?_ (hb3.mono ?_); rotate_left; (focus (first | omega | (simp; omega) | (simp; done)))) | (with_reducible refine Below.trans ?_ (hb2.mono ?_); rotate_left; (focus (first | omega | (simp; omega) | (simp; done)))) | (with_reducible refine Below.trans ?_ (hb1.mono ?_); rotate_left; (focus (first | omega | (simp; omega) | (simp; done))))))) (first | (go_at_call 85; refine (HP.out _).mono ?_; rintro e w1 ⟨rfl, hb1⟩; have hz1 := hb1.size; (try simp at hz1); (first | (refine ltk (w.heap.size) (w1.heap.size) ?_ ?_; (focus omega); intro f10) | skip); (first | (refine ltk (w.heap.size + 1) (w1.heap.size) ?_ ?_; (focus omega); intro f11) | skip); (refine olds_k (w.heap.size + 2) hb1 ?_ ?_; (focus (first | omega | (simp; omega) | (simp; done))); intro hc1 hf1)) | (go_at_call 56; refine (HK.out _).mono ?_; rintro e w2 ⟨rfl, hb2⟩; have hz2 := hb2.size; (try simp at hz2); (first | (refine ltk (w.heap.size) (w2.heap.size) ?_ ?_; (focus omega); intro f20) | skip); (first | (refine ltk (w.heap.size + 1) (w2.heap.size) ?_ ?_; (focus omega); intro f21) | skip); (refine olds_k (w.heap.size + 2) hb2 ?_ ?_; (focus (first | omega | (simp; omega) | (simp; done))); intro hc2 hf2)) | (go_at_call 109; refine (HM.out _).mono ?_; rintro e w3 ⟨rfl, hb3⟩; have hz3 := hb3.size; (try simp at hz3); (first | (refine ltk (w.heap.size) (w3.heap.size) ?_ ?_; (focus omega); intro f30) | skip); (first | (refine ltk (w.heap.size + 1) (w3.heap.size) ?_ ?_; (focus omega); intro f31) | skip); (refine olds_k (w.heap.size + 2) hb3 ?_ ?_; (focus (first | omega | (simp; omega) | (simp; done))); intro hc3 hf3)))
  all_goals
    go_wp2_with fail
    go_ret
    refine ⟨rfl, ?_⟩
    repeat (first | with_reducible exact Below.refl _ _ | (with_reducible refine Below.drew ?_) | (with_reducible refine Below.alloc ?_ ?_ _; rotate_left; (focus (first | omega | (simp; omega) | (simp; done)))) | (with_reducible refine Below.setCell ?_ ?_ _; rotate_left; (focus (first | omega | (simp; omega) | (simp; done)))) | (with_reducible refine Below.trans ?_ (hb3.mono ?_); rotate_left; (focus (first | omega | (simp; omega) | (simp; done)))) | (with_reducible refine Below.trans ?_ (hb2.mono ?_); rotate_left; (focus (first | omega | (simp; omega) | (simp; done)))) | (with_reducible refine Below.trans ?_ (hb1.mono ?_); rotate_left; (focus (first | omega | (simp; omega) | (simp; done)))))

end Go.Proofs.YtngcbhbcocnbeaaGreat
namespace Go.Proofs.YtngcbhbcocnbeaaGreat
open Go.RowKit

/-- whether the prefix (s, H, L, b) has the address (s', H', L') -/
def hadB (s : Bool) (H L : BitVec 64) (b : Int) (s' : Bool) (H' L' : BitVec 64) : Bool := pokB s H L b && (okB s' H'.toInt L'.toInt && hasB s H L ((wd s : Int) - b).toNat s' H' L')

theorem sHasAddr_any (s : Bool) (H L : BitVec 64) (b : Int) (s' : Bool) (H' L' : BitVec 64) (w : World) :
    Calls Tryz.prog 89 #[.agg #[.bool s, .int .i64 H.toInt, .int .i64 L.toInt, .int .i64 b], .agg #[.bool s', .int .i64 H'.toInt, .int .i64 L'.toInt]] w fun e w' => e = .returned (.bool (hadB s H L b s' H' L')) ∧ Below w.heap.size w w' := by
  cases hp : pokB s H L b
  · rw [show hadB s H L b s' H' L' = false by simp [hadB, hp]]
    exact sHasAddr_no s H L b s' H' L' hp w
  · cases hok : okB s' H'.toInt L'.toInt
    · rw [show hadB s H L b s' H' L' = false by simp [hadB, hok]]
      exact sHasAddr_bad s H L b s' H' L' hp hok w
    · rw [show hadB s H L b s' H' L' = hasB s H L ((wd s : Int) - b).toNat s' H' L' by rw [hadB, hp, hok]; rfl]
      have hb : 0 ≤ b ∧ b ≤ (wd s : Int) := by
        simp only [pokB, Bool.and_eq_true, decide_eq_true_eq] at hp
        exact hp.2.1
      by_cases e : s' = s
      · subst e
        exact sHasAddr_same s' H L b _ H' L' hp hok (by omega) (by omega) w
      · have e1 : (s' == s) = false := by simpa using e
        rw [show hasB s H L ((wd s : Int) - b).toNat s' H' L' = false by rw [hasB, e1]; rfl]
        cases s <;> cases s'
        · cases e1
        · exact sHasAddr_ft H L b H' L' hp hok w
        · exact sHasAddr_tf H L b H' L' hp hok w
        · cases e1

end Go.Proofs.YtngcbhbcocnbeaaGreat
namespace Go.Proofs.YtngcbhbcocnbeaaGreat
open Go.RowKit

/-- whether the prefix (s, H, L, b) lies in (s', H', L', b') -/
def winB (s : Bool) (H L : BitVec 64) (b : Int) (s' : Bool) (H' L' : BitVec 64) (b' : Int) : Bool := pokB s H L b && (pokB s' H' L' b' && (decide (b' ≤ b) && hadB s' H' L' b' s H L))

set_option maxHeartbeats 1000000 in
theorem sWithin_any (s : Bool) (H L : BitVec 64) (b : Int) (s' : Bool) (H' L' : BitVec 64) (b' : Int) (w : World) :
    Calls Tryz.prog 108 #[.agg #[.bool s, .int .i64 H.toInt, .int .i64 L.toInt, .int .i64 b], .agg #[.bool s', .int .i64 H'.toInt, .int .i64 L'.toInt, .int .i64 b']] w fun e w' => e = .returned (.bool (winB s H L b s' H' L' b')) ∧ Below w.heap.size w w' := by
  have HP : Hid (∀ w, _) := sPrefixOk_any s H L b
  have HQ : Hid (∀ w, _) := sPrefixOk_any s' H' L' b'
  have HH : Hid (∀ w, _) := sHasAddr_any s' H' L' b' s H L
  rw [winB]
  generalize pokB s H L b = B1 at HP ⊢
  generalize pokB s' H' L' b' = B2 at HQ ⊢
  generalize hadB s' H' L' b' s H L = B3 at HH ⊢
  cases B1
  · rw [Bool.false_and]
    go_enter Tryz.func108, Tryz.ntmps108
    go_wp2_with fail
    refine (HP.out _).mono ?_
    rintro e w1 ⟨rfl, hb1⟩
    have hz1 := hb1.size
    try simp at hz1
    have f10 : w.heap.size < w1.heap.size := by omega
    have f11 : w.heap.size + 1 < w1.heap.size := by omega
    refine olds_k (w.heap.size + 2) hb1 ?_ ?_
    · first | omega | (simp; omega) | (simp; done)
    intro hc1 hf1
    go_wp2_with fail
    go_ret
    refine ⟨rfl, ?_⟩
    repeat (first | with_reducible exact Below.refl _ _ | (with_reducible refine Below.drew ?_) | (with_reducible refine Below.alloc ?_ ?_ _; rotate_left; (focus (first | omega | (simp; omega) | (simp; done)))) | (with_reducible refine Below.setCell ?_ ?_ _; rotate_left; (focus (first | omega | (simp; omega) | (simp; done)))) | (with_reducible refine Below.trans ?_ (hb1.mono ?_); rotate_left; (focus (first | omega | (simp; omega) | (simp; done)))))
  cases B2
  · rw [Bool.false_and, Bool.and_false]
    go_enter Tryz.func108, Tryz.ntmps108
    go_wp2_with fail
    refine (HP.out _).mono ?_
    rintro e w1 ⟨rfl, hb1⟩
    have hz1 := hb1.size
    try simp at hz1
    have f10 : w.heap.size < w1.heap.size := by omega
    have f11 : w.heap.size + 1 < w1.heap.size := by omega
    refine olds_k (w.heap.size + 2) hb1 ?_ ?_
    · first | omega | (simp; omega) | (simp; done)
    intro hc1 hf1
    go_wp2_with fail
    refine (HQ.out _).mono ?_
    rintro e w2 ⟨rfl, hb2⟩
    have hz2 := hb2.size
    try simp at hz2
    have f20 : w.heap.size < w2.heap.size := by omega
    have f21 : w.heap.size + 1 < w2.heap.size := by omega
    refine olds_k (w.heap.size + 2) hb2 ?_ ?_
    · first | omega | (simp; omega) | (simp; done)
    intro hc2 hf2
    go_wp2_with fail
    go_ret
    refine ⟨rfl, ?_⟩
    repeat (first | with_reducible exact Below.refl _ _ | (with_reducible refine Below.drew ?_) | (with_reducible refine Below.alloc ?_ ?_ _; rotate_left; (focus (first | omega | (simp; omega) | (simp; done)))) | (with_reducible refine Below.setCell ?_ ?_ _; rotate_left; (focus (first | omega | (simp; omega) | (simp; done)))) | (with_reducible refine Below.trans ?_ (hb2.mono ?_); rotate_left; (focus (first | omega | (simp; omega) | (simp; done)))) | (with_reducible refine Below.trans ?_ (hb1.mono ?_); rotate_left; (focus (first | omega | (simp; omega) | (simp; done)))))
  by_cases hle : b' ≤ b
  · rw [decide_eq_true hle, Bool.true_and, Bool.true_and, Bool.true_and]
    go_enter Tryz.func108, Tryz.ntmps108
    go_wp2_with fail
    refine (HP.out _).mono ?_
    rintro e w1 ⟨rfl, hb1⟩
    have hz1 := hb1.size
    try simp at hz1
    have f10 : w.heap.size < w1.heap.size := by omega
    have f11 : w.heap.size + 1 < w1.heap.size := by omega
    refine olds_k (w.heap.size + 2) hb1 ?_ ?_
    · first | omega | (simp; omega) | (simp; done)
    intro hc1 hf1
    go_wp2_with fail
    refine (HQ.out _).mono ?_
    rintro e w2 ⟨rfl, hb2⟩
    have hz2 := hb2.size
    try simp at hz2
    have f20 : w.heap.size < w2.heap.size := by omega
    have f21 : w.heap.size + 1 < w2.heap.size := by omega
    refine olds_k (w.heap.size + 2) hb2 ?_ ?_
    · first | omega | (simp; omega) | (simp; done)
    intro hc2 hf2
    go_wp2_with fail
    refine (HH.out _).mono ?_
    rintro e w3 ⟨rfl, hb3⟩
    have hz3 := hb3.size
    try simp at hz3
    have f30 : w.heap.size < w3.heap.size := by omega
    have f31 : w.heap.size + 1 < w3.heap.size := by omega
    refine olds_k (w.heap.size + 2) hb3 ?_ ?_
    · first | omega | (simp; omega) | (simp; done)
    intro hc3 hf3
    go_wp2_with fail
    go_ret
    refine ⟨rfl, ?_⟩
    repeat (first | with_reducible exact Below.refl _ _ | (with_reducible refine Below.drew ?_) | (with_reducible refine Below.alloc ?_ ?_ _; rotate_left; (focus (first | omega | (simp; omega) | (simp; done)))) | (with_reducible refine Below.setCell ?_ ?_ _; rotate_left; (focus (first | omega | (simp; omega) | (simp; done)))) | (with_reducible refine Below.trans ?_ (hb3.mono ?_); rotate_left; (focus (first | omega | (simp; omega) | (simp; done)))) | (with_reducible refine Below.trans ?_ (hb2.mono ?_); rotate_left; (focus (first | omega | (simp; omega) | (simp; done)))) | (with_reducible refine Below.trans ?_ (hb1.mono ?_); rotate_left; (focus (first | omega | (simp; omega) | (simp; done)))))
  · rw [decide_eq_false hle, Bool.false_and, Bool.true_and, Bool.true_and]
    go_enter Tryz.func108, Tryz.ntmps108
    go_wp2_with fail
    refine (HP.out _).mono ?_
    rintro e w1 ⟨rfl, hb1⟩
    have hz1 := hb1.size
    try simp at hz1
    have f10 : w.heap.size < w1.heap.size := by omega
    have f11 : w.heap.size + 1 < w1.heap.size := by omega
    refine olds_k (w.heap.size + 2) hb1 ?_ ?_
    · first | omega | (simp; omega) | (simp; done)
    intro hc1 hf1
    go_wp2_with fail
    refine (HQ.out _).mono ?_
    rintro e w2 ⟨rfl, hb2⟩
    have hz2 := hb2.size
    try simp at hz2
    have f20 : w.heap.size < w2.heap.size := by omega
    have f21 : w.heap.size + 1 < w2.heap.size := by omega
    refine olds_k (w.heap.size + 2) hb2 ?_ ?_
    · first | omega | (simp; omega) | (simp; done)
    intro hc2 hf2
    go_wp2_with fail
    go_ret
    refine ⟨rfl, ?_⟩
    repeat (first | with_reducible exact Below.refl _ _ | (with_reducible refine Below.drew ?_) | (with_reducible refine Below.alloc ?_ ?_ _; rotate_left; (focus (first | omega | (simp; omega) | (simp; done)))) | (with_reducible refine Below.setCell ?_ ?_ _; rotate_left; (focus (first | omega | (simp; omega) | (simp; done)))) | (with_reducible refine Below.trans ?_ (hb2.mono ?_); rotate_left; (focus (first | omega | (simp; omega) | (simp; done)))) | (with_reducible refine Below.trans ?_ (hb1.mono ?_); rotate_left; (focus (first | omega | (simp; omega) | (simp; done)))))

end Go.Proofs.YtngcbhbcocnbeaaGreat
namespace Go.Proofs.YtngcbhbcocnbeaaGreat
open Go.RowKit

/-- whether the span (s, H, L, n) lies in (s', H', L', m) -/
def withB (s : Bool) (H L : BitVec 64) (n : Nat) (s' : Bool) (H' L' : BitVec 64) (m : Nat) : Bool := decide (n ≤ m) && hasB s' H' L' m s H L

set_option maxHeartbeats 1000000 in
theorem within_any (s : Bool) (H L : BitVec 64) (n : Nat) (s' : Bool) (H' L' : BitVec 64) (m : Nat) (hm : m ≤ 128) (w : World) :
    Calls Tryz.prog 149 #[.agg #[.bool s, .int .i64 H.toInt, .int .i64 L.toInt, .int .i64 n], .agg #[.bool s', .int .i64 H'.toInt, .int .i64 L'.toInt, .int .i64 m]] w fun e w' => e = .returned (.bool (withB s H L n s' H' L' m)) ∧ Below w.heap.size w w' := by
  by_cases h : n ≤ m
  · rw [withB, decide_eq_true h, Bool.true_and]
    go_enter Tryz.func149, Tryz.ntmps149
    go_wp2_with fail
    refine (has_any s' H' L' m hm s H L _).mono ?_
    rintro e w1 ⟨rfl, hb1⟩
    have hz1 := hb1.size
    try simp at hz1
    have f10 : w.heap.size < w1.heap.size := by omega
    have f11 : w.heap.size + 1 < w1.heap.size := by omega
    refine olds_k (w.heap.size + 2) hb1 ?_ ?_
    · first | omega | (simp; omega) | (simp; done)
    intro hc1 hf1
    go_wp2_with fail
    go_ret
    refine ⟨rfl, ?_⟩
    repeat (first | with_reducible exact Below.refl _ _ | (with_reducible refine Below.drew ?_) | (with_reducible refine Below.alloc ?_ ?_ _; rotate_left; (focus (first | omega | (simp; omega) | (simp; done)))) | (with_reducible refine Below.setCell ?_ ?_ _; rotate_left; (focus (first | omega | (simp; omega) | (simp; done)))) | (with_reducible refine Below.trans ?_ (hb1.mono ?_); rotate_left; (focus (first | omega | (simp; omega) | (simp; done)))))
  · rw [withB, decide_eq_false h, Bool.false_and]
    go_enter Tryz.func149, Tryz.ntmps149
    go_wp2_with fail
    go_ret
    refine ⟨rfl, ?_⟩
    repeat (first | with_reducible exact Below.refl _ _ | (with_reducible refine Below.drew ?_) | (with_reducible refine Below.alloc ?_ ?_ _; rotate_left; (focus (first | omega | (simp; omega) | (simp; done)))) | (with_reducible refine Below.setCell ?_ ?_ _; rotate_left; (focus (first | omega | (simp; omega) | (simp; done)))))

set_option maxHeartbeats 1000000 in
theorem overlaps_any (s : Bool) (H L : BitVec 64) (n : Nat) (hn : n ≤ 128) (s' : Bool) (H' L' : BitVec 64) (m : Nat) (hm : m ≤ 128) (w : World) :
    Calls Tryz.prog 147 #[.agg #[.bool s, .int .i64 H.toInt, .int .i64 L.toInt, .int .i64 n], .agg #[.bool s', .int .i64 H'.toInt, .int .i64 L'.toInt, .int .i64 m]] w fun e w' => e = .returned (.bool (withB s H L n s' H' L' m || withB s' H' L' m s H L n)) ∧ Below w.heap.size w w' := by
  have HW : Hid (∀ w, _) := within_any s H L n s' H' L' m hm
  have HX : Hid (∀ w, _) := within_any s' H' L' m s H L n hn
  generalize withB s H L n s' H' L' m = b1 at HW ⊢
  generalize withB s' H' L' m s H L n = b2 at HX ⊢
  cases b1
  · rw [Bool.false_or]
    go_enter Tryz.func147, Tryz.ntmps147
    go_wp2_with fail
    refine (HW.out _).mono ?_
    rintro e w1 ⟨rfl, hb1⟩
    have hz1 := hb1.size
    try simp at hz1
    have f10 : w.heap.size < w1.heap.size := by omega
    have f11 : w.heap.size + 1 < w1.heap.size := by omega
    refine olds_k (w.heap.size + 2) hb1 ?_ ?_
    · first | omega | (simp; omega) | (simp; done)
    intro hc1 hf1
    go_wp2_with fail
    refine (HX.out _).mono ?_
    rintro e w2 ⟨rfl, hb2⟩
    have hz2 := hb2.size
    try simp at hz2
    have f20 : w.heap.size < w2.heap.size := by omega
    have f21 : w.heap.size + 1 < w2.heap.size := by omega
    refine olds_k (w.heap.size + 2) hb2 ?_ ?_
    · first | omega | (simp; omega) | (simp; done)
    intro hc2 hf2
    go_wp2_with fail
    go_ret
    refine ⟨rfl, ?_⟩
    repeat (first | with_reducible exact Below.refl _ _ | (with_reducible refine Below.drew ?_) | (with_reducible refine Below.alloc ?_ ?_ _; rotate_left; (focus (first | omega | (simp; omega) | (simp; done)))) | (with_reducible refine Below.setCell ?_ ?_ _; rotate_left; (focus (first | omega | (simp; omega) | (simp; done)))) | (with_reducible refine Below.trans ?_ (hb2.mono ?_); rotate_left; (focus (first | omega | (simp; omega) | (simp; done)))) | (with_reducible refine Below.trans ?_ (hb1.mono ?_); rotate_left; (focus (first | omega | (simp; omega) | (simp; done)))))
  · rw [Bool.true_or]
    go_enter Tryz.func147, Tryz.ntmps147
    go_wp2_with fail
    refine (HW.out _).mono ?_
    rintro e w1 ⟨rfl, hb1⟩
    have hz1 := hb1.size
    try simp at hz1
    have f10 : w.heap.size < w1.heap.size := by omega
    have f11 : w.heap.size + 1 < w1.heap.size := by omega
    refine olds_k (w.heap.size + 2) hb1 ?_ ?_
    · first | omega | (simp; omega) | (simp; done)
    intro hc1 hf1
    go_wp2_with fail
    go_ret
    refine ⟨rfl, ?_⟩
    repeat (first | with_reducible exact Below.refl _ _ | (with_reducible refine Below.drew ?_) | (with_reducible refine Below.alloc ?_ ?_ _; rotate_left; (focus (first | omega | (simp; omega) | (simp; done)))) | (with_reducible refine Below.setCell ?_ ?_ _; rotate_left; (focus (first | omega | (simp; omega) | (simp; done)))) | (with_reducible refine Below.trans ?_ (hb1.mono ?_); rotate_left; (focus (first | omega | (simp; omega) | (simp; done)))))

end Go.Proofs.YtngcbhbcocnbeaaGreat
namespace Go.Proofs.YtngcbhbcocnbeaaGreat
open Go.RowKit

theorem win_with {s : Bool} {H L : BitVec 64} {b : Int} {s' : Bool} {H' L' : BitVec 64} {b' : Int} {n m : Nat} (hp : pokB s H L b = true) (hq : pokB s' H' L' b' = true) (hn : (n : Int) = (wd s : Int) - b) (hm : (m : Int) = (wd s' : Int) - b') :
    winB s H L b s' H' L' b' = withB s H L n s' H' L' m := by
  have ho := (pokB_parts hp).1
  rw [winB, hp, hq, withB, hadB, hq, ho, ← hm]
  simp only [Bool.true_and, Int.toNat_natCast]
  by_cases e : s = s'
  · subst e
    rw [show decide (b' ≤ b) = decide (n ≤ m) from decide_eq_decide.mpr (by omega)]
  · have : hasB s' H' L' m s H L = false := by
      rw [hasB, show (s == s') = false by simpa using e]; rfl
    rw [this, Bool.and_false, Bool.and_false]
theorem win_no1 {s : Bool} {H L : BitVec 64} {b : Int} {s' : Bool} {H' L' : BitVec 64} {b' : Int} (hp : pokB s H L b = false) : winB s H L b s' H' L' b' = false := by rw [winB, hp]; rfl
theorem win_no2 {s : Bool} {H L : BitVec 64} {b : Int} {s' : Bool} {H' L' : BitVec 64} {b' : Int} (hq : pokB s' H' L' b' = false) : winB s H L b s' H' L' b' = false := by rw [winB, hq]; simp

set_option maxHeartbeats 1000000 in
theorem iWithin_any (s : Bool) (H L : BitVec 64) (b : Int) (s' : Bool) (H' L' : BitVec 64) (b' : Int) (w : World) :
    Calls Tryz.prog 136 #[.agg #[.bool s, .int .i64 H.toInt, .int .i64 L.toInt, .int .i64 b], .agg #[.bool s', .int .i64 H'.toInt, .int .i64 L'.toInt, .int .i64 b']] w fun e w' => e = .returned (.bool (winB s H L b s' H' L' b')) ∧ Below w.heap.size w w' := by
  cases hp : pokB s H L b
  · rw [win_no1 hp]
    have HS : Hid (∀ w, _) := spanOf_no s H L b hp
    clear hp
    cases hq : pokB s' H' L' b'
    · have HT : Hid (∀ w, _) := spanOf_no s' H' L' b' hq
      clear hq
      go_enter Tryz.func136, Tryz.ntmps136
      go_wp2_with fail
      refine (HS.out _).mono ?_
      rintro e w1 ⟨rfl, hb1⟩
      have hz1 := hb1.size
      try simp at hz1
      have f10 : w.heap.size < w1.heap.size := by omega
      have f11 : w.heap.size + 1 < w1.heap.size := by omega
      refine olds_k (w.heap.size + 2) hb1 ?_ ?_
      · first | omega | (simp; omega) | (simp; done)
      intro hc1 hf1
      go_wp2_with fail
      refine (HT.out _).mono ?_
      rintro e w2 ⟨rfl, hb2⟩
      have hz2 := hb2.size
      try simp at hz2
      have f2x0 : w.heap.size < w2.heap.size := by omega
      have f2x1 : w.heap.size + 1 < w2.heap.size := by omega
      have f2x2 : w1.heap.size < w2.heap.size := by omega
      have f2x3 : w.heap.size + 1 < w1.heap.size + 1 := by omega
      refine olds_k (w1.heap.size + 1) hb2 ?_ ?_
      · first | omega | (simp; omega) | (simp; done)
      intro hc2 hf2
      go_wp2_with fail
      go_ret
      refine ⟨rfl, ?_⟩
      repeat (first | with_reducible exact Below.refl _ _ | (with_reducible refine Below.drew ?_) | (with_reducible refine Below.alloc ?_ ?_ _; rotate_left; (focus (first | omega | (simp; omega) | (simp; done)))) | (with_reducible refine Below.setCell ?_ ?_ _; rotate_left; (focus (first | omega | (simp; omega) | (simp; done)))) | (with_reducible refine Below.trans ?_ (hb2.mono ?_); rotate_left; (focus (first | omega | (simp; omega) | (simp; done)))) | (with_reducible refine Below.trans ?_ (hb1.mono ?_); rotate_left; (focus (first | omega | (simp; omega) | (simp; done)))))
    · obtain ⟨m, hm⟩ : ∃ m : Nat, (m : Int) = (wd s' : Int) - b' := ⟨((wd s' : Int) - b').toNat, by have := (pokB_parts hq).2.1; omega⟩
      have HT : Hid (∀ w, _) := spanOf_yes s' H' L' b' m hm hq
      clear hq hm
      go_enter Tryz.func136, Tryz.ntmps136
      go_wp2_with fail
      refine (HS.out _).mono ?_
      rintro e w1 ⟨rfl, hb1⟩
      have hz1 := hb1.size
      try simp at hz1
      have f10 : w.heap.size < w1.heap.size := by omega
      have f11 : w.heap.size + 1 < w1.heap.size := by omega
      refine olds_k (w.heap.size + 2) hb1 ?_ ?_
      · first | omega | (simp; omega) | (simp; done)
      intro hc1 hf1
      go_wp2_with fail
      refine (HT.out _).mono ?_
      rintro e w2 ⟨rfl, hb2⟩
      have hz2 := hb2.size
      try simp at hz2
      have f2x0 : w.heap.size < w2.heap.size := by omega
      have f2x1 : w.heap.size + 1 < w2.heap.size := by omega
      have f2x2 : w1.heap.size < w2.heap.size := by omega
      have f2x3 : w.heap.size + 1 < w1.heap.size + 1 := by omega
      refine olds_k (w1.heap.size + 1) hb2 ?_ ?_
      · first | omega | (simp; omega) | (simp; done)
      intro hc2 hf2
      go_wp2_with fail
      go_ret
      refine ⟨rfl, ?_⟩
      repeat (first | with_reducible exact Below.refl _ _ | (with_reducible refine Below.drew ?_) | (with_reducible refine Below.alloc ?_ ?_ _; rotate_left; (focus (first | omega | (simp; omega) | (simp; done)))) | (with_reducible refine Below.setCell ?_ ?_ _; rotate_left; (focus (first | omega | (simp; omega) | (simp; done)))) | (with_reducible refine Below.trans ?_ (hb2.mono ?_); rotate_left; (focus (first | omega | (simp; omega) | (simp; done)))) | (with_reducible refine Below.trans ?_ (hb1.mono ?_); rotate_left; (focus (first | omega | (simp; omega) | (simp; done)))))
  · obtain ⟨n, hn⟩ : ∃ n : Nat, (n : Int) = (wd s : Int) - b := ⟨((wd s : Int) - b).toNat, by have := (pokB_parts hp).2.1; omega⟩
    have HS : Hid (∀ w, _) := spanOf_yes s H L b n hn hp
    cases hq : pokB s' H' L' b'
    · rw [win_no2 hq]
      have HT : Hid (∀ w, _) := spanOf_no s' H' L' b' hq
      clear hq hp hn
      go_enter Tryz.func136, Tryz.ntmps136
      go_wp2_with fail
      refine (HS.out _).mono ?_
      rintro e w1 ⟨rfl, hb1⟩
      have hz1 := hb1.size
      try simp at hz1
      have f10 : w.heap.size < w1.heap.size := by omega
      have f11 : w.heap.size + 1 < w1.heap.size := by omega
      refine olds_k (w.heap.size + 2) hb1 ?_ ?_
      · first | omega | (simp; omega) | (simp; done)
      intro hc1 hf1
      go_wp2_with fail
      refine (HT.out _).mono ?_
      rintro e w2 ⟨rfl, hb2⟩
      have hz2 := hb2.size
      try simp at hz2
      have f2x0 : w.heap.size < w2.heap.size := by omega
      have f2x1 : w.heap.size + 1 < w2.heap.size := by omega
      have f2x2 : w1.heap.size < w2.heap.size := by omega
      have f2x3 : w.heap.size + 1 < w1.heap.size + 1 := by omega
      refine olds_k (w1.heap.size + 1) hb2 ?_ ?_
      · first | omega | (simp; omega) | (simp; done)
      intro hc2 hf2
      go_wp2_with fail
      go_ret
      refine ⟨rfl, ?_⟩
      repeat (first | with_reducible exact Below.refl _ _ | (with_reducible refine Below.drew ?_) | (with_reducible refine Below.alloc ?_ ?_ _; rotate_left; (focus (first | omega | (simp; omega) | (simp; done)))) | (with_reducible refine Below.setCell ?_ ?_ _; rotate_left; (focus (first | omega | (simp; omega) | (simp; done)))) | (with_reducible refine Below.trans ?_ (hb2.mono ?_); rotate_left; (focus (first | omega | (simp; omega) | (simp; done)))) | (with_reducible refine Below.trans ?_ (hb1.mono ?_); rotate_left; (focus (first | omega | (simp; omega) | (simp; done)))))
    · obtain ⟨m, hm⟩ : ∃ m : Nat, (m : Int) = (wd s' : Int) - b' := ⟨((wd s' : Int) - b').toNat, by have := (pokB_parts hq).2.1; omega⟩
      rw [win_with hp hq hn hm]
      have hn1 : n ≤ 128 := by have := wd_le' s; have := (pokB_parts hp).2.1; omega
      have hm1 : m ≤ 128 := by have := wd_le' s'; have := (pokB_parts hq).2.1; omega
      have HT : Hid (∀ w, _) := spanOf_yes s' H' L' b' m hm hq
      have HW : Hid (∀ w, _) := within_any s H L n s' H' L' m hm1
      clear hn1
      generalize withB s H L n s' H' L' m = B1 at HW ⊢
      clear hq hm hp hn
      go_enter Tryz.func136, Tryz.ntmps136
      go_wp2_with fail
      refine (HS.out _).mono ?_
      rintro e w1 ⟨rfl, hb1⟩
      have hz1 := hb1.size
      try simp at hz1
      have f10 : w.heap.size < w1.heap.size := by omega
      have f11 : w.heap.size + 1 < w1.heap.size := by omega
      refine olds_k (w.heap.size + 2) hb1 ?_ ?_
      · first | omega | (simp; omega) | (simp; done)
      intro hc1 hf1
      go_wp2_with fail
      refine (HT.out _).mono ?_
      rintro e w2 ⟨rfl, hb2⟩
      have hz2 := hb2.size
      try simp at hz2
      have f2x0 : w.heap.size < w2.heap.size := by omega
      have f2x1 : w.heap.size + 1 < w2.heap.size := by omega
      have f2x2 : w1.heap.size < w2.heap.size := by omega
      have f2x3 : w.heap.size + 1 < w1.heap.size + 1 := by omega
      refine olds_k (w1.heap.size + 1) hb2 ?_ ?_
      · first | omega | (simp; omega) | (simp; done)
      intro hc2 hf2
      go_wp2_with fail
      refine (HW.out _).mono ?_
      rintro e w3 ⟨rfl, hb3⟩
      have hz3 := hb3.size
      try simp at hz3
      have f30 : w.heap.size < w3.heap.size := by omega
      have f31 : w.heap.size + 1 < w3.heap.size := by omega
      refine olds_k (w.heap.size + 2) hb3 ?_ ?_
      · first | omega | (simp; omega) | (simp; done)
      intro hc3 hf3
      go_wp2_with fail
      go_ret
      refine ⟨rfl, ?_⟩
      repeat (first | with_reducible exact Below.refl _ _ | (with_reducible refine Below.drew ?_) | (with_reducible refine Below.alloc ?_ ?_ _; rotate_left; (focus (first | omega | (simp; omega) | (simp; done)))) | (with_reducible refine Below.setCell ?_ ?_ _; rotate_left; (focus (first | omega | (simp; omega) | (simp; done)))) | (with_reducible refine Below.trans ?_ (hb3.mono ?_); rotate_left; (focus (first | omega | (simp; omega) | (simp; done)))) | (with_reducible refine Below.trans ?_ (hb2.mono ?_); rotate_left; (focus (first | omega | (simp; omega) | (simp; done)))) | (with_reducible refine Below.trans ?_ (hb1.mono ?_); rotate_left; (focus (first | omega | (simp; omega) | (simp; done)))))

end Go.Proofs.YtngcbhbcocnbeaaGreat
namespace Go.Proofs.YtngcbhbcocnbeaaGreat
open Go.RowKit

theorem hidP {p : Prop} (h : p) : Hid p := h

/-- Four cells: a bool, two words, a number. -/
structure Pf where
  s : Bool
  H : BitVec 64
  L : BitVec 64
  b : Int

def Pf.cs (p : Pf) : List Value := [.bool p.s, .int .i64 p.H.toInt, .int .i64 p.L.toInt, .int .i64 p.b]
def flat : List Pf → List Value
  | [] => []
  | p :: t => p.cs ++ flat t
theorem flat_at : ∀ (ps : List Pf) (j : Nat) (q : Pf), ps[j]? = some q → (flat ps)[j * 4]? = some (.bool q.s) ∧ (flat ps)[j * 4 + 1]? = some (.int .i64 q.H.toInt) ∧ (flat ps)[j * 4 + 2]? = some (.int .i64 q.L.toInt) ∧ (flat ps)[j * 4 + 3]? = some (.int .i64 q.b)
  | [], j, q, h => by simp at h
  | p :: t, 0, q, h => by
      simp at h; subst h; simp [flat, Pf.cs]
  | p :: t, j + 1, q, h => by
      have := flat_at t j q (by simpa using h)
      have e : ∀ i, (flat (p :: t))[(j + 1) * 4 + i]? = (flat t)[j * 4 + i]? := fun i => by
        show (p.cs ++ flat t)[(j + 1) * 4 + i]? = _
        rw [List.getElem?_append_right (by simp [Pf.cs]; omega)]
        congr 1
        simp [Pf.cs]; omega
      have e0 := e 0
      rw [Nat.add_zero, Nat.add_zero] at e0
      rw [e0, e 1, e 2, e 3]
      exact this

/-- What is read of a row. -/
def Row (w : World) (a : Option Addr) (ps : List Pf) : Prop := ∀ j, j < ps.length → ∃ p o q, a = some ⟨p, o, none⟩ ∧ p < w.heap.size ∧ ps[j]? = some q ∧
  w.cell? ⟨p, o + j * 4, none⟩ = some (.bool q.s) ∧ w.cell? ⟨p, o + j * 4 + 1, none⟩ = some (.int .i64 q.H.toInt) ∧ w.cell? ⟨p, o + j * 4 + 2, none⟩ = some (.int .i64 q.L.toInt) ∧ w.cell? ⟨p, o + j * 4 + 3, none⟩ = some (.int .i64 q.b)
/-- A row of one's own. -/
def OwnR (t : TypeId) (w : World) (B : Nat) (v : Value) (ps : List Pf) : Prop := w.ownsRow B t 4 v ps.length (flat ps)

theorem Row.later {w w' : World} {a : Option Addr} {ps : List Pf} (h : Row w a ps) (hb : Below w.heap.size w w') : Row w' a ps := fun j hj => by
  obtain ⟨p, o, q, ha, hp, hq, c0, c1, c2, c3⟩ := h j hj
  exact ⟨p, o, q, ha, Nat.lt_of_lt_of_le hp hb.size, hq, (hb.cell hp).trans c0, (hb.cell hp).trans c1, (hb.cell hp).trans c2, (hb.cell hp).trans c3⟩
theorem Row.nil (w : World) (a : Option Addr) : Row w a [] := fun j hj => absurd hj (Nat.not_lt_zero j)
theorem OwnR.row {t : TypeId} {w : World} {B n cap : Nat} {a : Option Addr} {ps : List Pf} (h : OwnR t w B (.slice a n cap) ps) : Row w a ps := fun j hj => by
  rcases h.2 with ⟨hv, hn⟩ | ⟨g, c, cur, hv, _, hg, _⟩
  · omega
  · simp at hv
    obtain ⟨rfl, rfl, rfl⟩ := hv
    have hq : ps[j]? = some ps[j] := List.getElem?_eq_getElem hj
    obtain ⟨c0, c1, c2, c3⟩ := flat_at ps j _ hq
    have k := fun (i : Nat) (hi : i < 4) => World.ownsRow.cellAt h (j * 4 + i) (by omega : j * 4 + i < ps.length * 4)
    refine ⟨g, 0, ps[j], rfl, ?_, hq, ?_, ?_, ?_, ?_⟩
    · rcases Nat.lt_or_ge g w.heap.size with h' | h'
      · exact h'
      · rw [Array.getElem?_eq_none h'] at hg; cases hg
    · have := k 0 (by omega : 0 < 4); rw [Nat.zero_add]; rw [Nat.add_zero] at this; rw [this, c0]
    · have := k 1 (by omega : 1 < 4); rw [Nat.zero_add, this, c1]
    · have := k 2 (by omega : 2 < 4); rw [Nat.zero_add, this, c2]
    · have := k 3 (by omega : 3 < 4); rw [Nat.zero_add, this, c3]
theorem OwnR.form {t : TypeId} {w : World} {B : Nat} {v : Value} {ps : List Pf} (h : OwnR t w B v ps) : ∃ a c, v = .slice a ps.length c := by
  rcases h.2 with ⟨rfl, hn⟩ | ⟨g, c, cur, rfl, _⟩
  · exact ⟨none, 0, by rw [hn]⟩
  · exact ⟨_, _, rfl⟩
theorem OwnR.lt {t : TypeId} {w : World} {B : Nat} {v : Value} {ps : List Pf} (h : OwnR t w B v ps) : ∀ k, v.ownBlock = some k → B ≤ k ∧ k < w.heap.size := World.ownsRow.lt h
theorem OwnR.alloc {t : TypeId} {w : World} {B : Nat} {v : Value} {ps : List Pf} (h : OwnR t w B v ps) (o : Obj) : OwnR t (w.alloc o) B v ps := World.ownsRow.alloc h o
theorem OwnR.mono {t : TypeId} {w : World} {B B' : Nat} {v : Value} {ps : List Pf} (h : OwnR t w B v ps) (hb : B' ≤ B) : OwnR t w B' v ps := by
  refine ⟨h.1, ?_⟩
  rcases h.2 with h' | ⟨g, c, cur, h1, h2, h3⟩
  · exact Or.inl h'
  · exact Or.inr ⟨g, c, cur, h1, Nat.le_trans hb h2, h3⟩
theorem OwnR.later {t : TypeId} {w w' : World} {B : Nat} {v : Value} {ps : List Pf} (h : OwnR t w B v ps) (hb : Below w.heap.size w w') : OwnR t w' B v ps := by
  refine ⟨h.1, ?_⟩
  rcases h.2 with h' | ⟨g, c, cur, h1, h2, h3, h4⟩
  · exact Or.inl h'
  · refine Or.inr ⟨g, c, cur, h1, h2, ?_, h4⟩
    have hg : g < w.heap.size := by
      rcases Nat.lt_or_ge g w.heap.size with h' | h'
      · exact h'
      · rw [Array.getElem?_eq_none h'] at h3; cases h3
    exact (hb.block g hg).trans h3
theorem OwnR.caps {t : TypeId} {w : World} {B n c : Nat} {a : Option Addr} {ps : List Pf} (h : OwnR t w B (.slice a n c) ps) : n = ps.length ∧ ps.length ≤ c ∧ c ≤ 9223372036854775807 ∧ (a = none → c = 0) := by
  rcases h.2 with ⟨hv, hn⟩ | ⟨g, c', cur, hv, _, _, h1, h2, _⟩
  · simp at hv; obtain ⟨rfl, rfl, rfl⟩ := hv; exact ⟨hn.symm, by omega, by omega, fun _ => rfl⟩
  · simp at hv
    obtain ⟨rfl, rfl, rfl⟩ := hv
    exact ⟨rfl, h1, by unfold maxLen at h2; omega, fun h => by cases h⟩

/-- Rows of four cells: the type's facts. -/
def Four (P : Program) (t e : TypeId) : Prop := P.underlying t = some (.slice e) ∧ (P.info? e).map (fun i => (i.zero, i.size, i.bytes)) = some (some (.agg #[.bool false, .int .i64 0, .int .i64 0, .int .i64 0]), 4, 32)

theorem own_one (w : World) (B : Nat) (t : TypeId) (q : Pf) (hB : B ≤ w.heap.size) : OwnR t (w.alloc (.cells #[.bool q.s, .int .i64 q.H.toInt, .int .i64 q.L.toInt, .int .i64 q.b] t)) B (.slice (some ⟨w.heap.size, 0, none⟩) 1 1) [q] :=
  ⟨rfl, Or.inr ⟨w.heap.size, 1, _, rfl, hB, heap_alloc_new w _, Nat.le_refl _, by unfold maxLen; omega, rfl, rfl⟩⟩

end Go.Proofs.YtngcbhbcocnbeaaGreat
namespace Go.Proofs.YtngcbhbcocnbeaaGreat
open Go.RowKit

/-- A span: where it begins, and how many bits are free. -/
structure Sp where
  s : Bool
  H : BitVec 64
  L : BitVec 64
  n : Nat

def Sp.ok (x : Sp) : Prop := okB x.s x.H.toInt x.L.toInt = true ∧ x.n ≤ wd x.s ∧ cH x.n x.H = x.H ∧ cL x.n x.L = x.L
def Sp.pre (x : Sp) : Pf := ⟨x.s, x.H, x.L, (wd x.s : Int) - x.n⟩
def wB (x y : Sp) : Bool := withB x.s x.H x.L x.n y.s y.H y.L y.n
theorem Sp.ok.pok {x : Sp} (h : x.ok) : pokB x.s x.H x.L ((wd x.s : Int) - x.n) = true := by
  obtain ⟨h1, h2, h3, h4⟩ := h
  have e : ((wd x.s : Int) - ((wd x.s : Int) - x.n)).toNat = x.n := by omega
  unfold pokB hasB
  rw [h1, e, h3, h4]
  have : decide (0 ≤ (wd x.s : Int) - x.n ∧ (wd x.s : Int) - x.n ≤ (wd x.s : Int)) = true := decide_eq_true (by omega)
  rw [this]; simp
theorem Sp.of_pok {p : Pf} (h : pokB p.s p.H p.L p.b = true) : ∃ x : Sp, x.ok ∧ x.pre = p := by
  obtain ⟨h1, h2, h3⟩ := pokB_parts h
  refine ⟨⟨p.s, p.H, p.L, ((wd p.s : Int) - p.b).toNat⟩, ⟨h1, by show ((wd p.s : Int) - p.b).toNat ≤ wd p.s; omega, ?_⟩, ?_⟩
  · unfold hasB at h3
    simp only [Bool.and_eq_true, beq_iff_eq] at h3
    exact h3.2
  · unfold Sp.pre
    obtain ⟨s, H, L, b⟩ := p
    simp only [Pf.mk.injEq, true_and]
    simp only at h2
    omega
theorem win_wB {x y : Sp} (hx : x.ok) (hy : y.ok) : winB x.s x.H x.L ((wd x.s : Int) - x.n) y.s y.H y.L ((wd y.s : Int) - y.n) = wB x y :=
  win_with hx.pok hy.pok (by omega) (by omega)
theorem wB_iff (x y : Sp) : wB x y = true ↔ x.n ≤ y.n ∧ x.s = y.s ∧ cH y.n x.H = y.H ∧ cL y.n x.L = y.L := by
  unfold wB withB hasB
  simp only [Bool.and_eq_true, decide_eq_true_eq, beq_iff_eq]

end Go.Proofs.YtngcbhbcocnbeaaGreat
namespace Go.Proofs.YtngcbhbcocnbeaaGreat
open Go.RowKit

/-- An address as a number. -/
def adrN (H L : BitVec 64) : Nat := (H ++ L).toNat
def Sp.adr (x : Sp) : Nat := adrN x.H x.L

theorem adrN_inj {H L H' L' : BitVec 64} (h : adrN H L = adrN H' L') : H = H' ∧ L = L' := by
  have e : H ++ L = H' ++ L' := BitVec.eq_of_toNat_eq h
  constructor
  · apply BitVec.eq_of_getLsbD_eq
    intro i hi
    have := congrArg (fun v => v.getLsbD (64 + i)) e
    rw [BitVec.getLsbD_append, BitVec.getLsbD_append, if_neg (by omega), if_neg (by omega), Nat.add_sub_cancel_left] at this
    exact this
  · apply BitVec.eq_of_getLsbD_eq
    intro i hi
    have := congrArg (fun v => v.getLsbD i) e
    rw [BitVec.getLsbD_append, BitVec.getLsbD_append, if_pos hi, if_pos hi] at this
    exact this
theorem adr_bit (H L : BitVec 64) (i : Nat) : (adrN H L).testBit i = if i < 64 then L.getLsbD i else H.getLsbD (i - 64) := by
  unfold adrN
  rw [BitVec.testBit_toNat, BitVec.getLsbD_append]
theorem adr_lt (H L : BitVec 64) : adrN H L < 2 ^ 128 := (H ++ L).isLt

theorem clr_adr (n : Nat) (H L : BitVec 64) : adrN (cH n H) (cL n L) = adrN H L >>> n <<< n := by
  apply Nat.eq_of_testBit_eq
  intro i
  rw [adr_bit, Nat.testBit_shiftLeft, Nat.testBit_shiftRight, adr_bit]
  unfold cH cL
  by_cases h : i < 64
  · rw [if_pos h]
    simp only [BitVec.getLsbD_and, BitVec.getLsbD_not, ml_bit, h, decide_true, Bool.true_and]
    by_cases hn : n ≤ i
    · rw [show n + (i - n) = i by omega, if_pos h]
      simp [hn, show ¬ i < n by omega]
    · simp [hn, show i < n by omega]
  · rw [if_neg h]
    by_cases hi : i < 128
    · have h6 : i - 64 < 64 := by omega
      simp only [BitVec.getLsbD_and, BitVec.getLsbD_not, mh_bit, h6, decide_true, Bool.true_and]
      by_cases hn : n ≤ i
      · rw [show n + (i - n) = i by omega, if_neg h]
        simp [hn, show ¬ i - 64 + 64 < n by omega]
      · simp [hn, show i - 64 + 64 < n by omega]
    · have e : ∀ v : BitVec 64, v.getLsbD (i - 64) = false := fun v => BitVec.getLsbD_of_ge v _ (by omega)
      rw [e]
      by_cases hn : n ≤ i
      · rw [show n + (i - n) = i by omega, if_neg h, e]; simp
      · simp [hn]

theorem ok_mult {x : Sp} (h : x.ok) : x.adr = x.adr / 2 ^ x.n * 2 ^ x.n := by
  have e := clr_adr x.n x.H x.L
  rw [h.2.2.1, h.2.2.2] at e
  rw [Nat.shiftRight_eq_div_pow, Nat.shiftLeft_eq] at e
  exact e
/-- A single address lies in a span. -/
theorem one_in {t x : Sp} (ht : t.n = 0) (hx : x.ok) : wB t x = true ↔ t.s = x.s ∧ x.adr ≤ t.adr ∧ t.adr < x.adr + 2 ^ x.n := by
  have hm := ok_mult hx
  have hp : 0 < 2 ^ x.n := Nat.pow_pos (by omega)
  have e := clr_adr x.n t.H t.L
  rw [Nat.shiftRight_eq_div_pow, Nat.shiftLeft_eq] at e
  rw [wB_iff]
  constructor
  · rintro ⟨_, hs, h1, h2⟩
    rw [h1, h2] at e
    have e2 : x.adr = t.adr / 2 ^ x.n * 2 ^ x.n := e
    refine ⟨hs, ?_, ?_⟩
    · rw [e2]; exact Nat.div_mul_le_self _ _
    · rw [e2]
      have := Nat.lt_div_mul_add (a := t.adr) hp
      omega
  · rintro ⟨hs, h1, h2⟩
    have hq : t.adr / 2 ^ x.n = x.adr / 2 ^ x.n := by
      rw [hm] at h1 h2
      apply Nat.div_eq_of_lt_le
      · exact h1
      · rw [Nat.succ_mul]; exact h2
    have e3 : adrN (cH x.n t.H) (cL x.n t.L) = adrN x.H x.L := by
      rw [e]
      show t.adr / 2 ^ x.n * 2 ^ x.n = x.adr
      rw [hq]; exact hm.symm
    obtain ⟨a, b⟩ := adrN_inj e3
    exact ⟨by omega, hs, a, b⟩

end Go.Proofs.YtngcbhbcocnbeaaGreat
namespace Go.Proofs.YtngcbhbcocnbeaaGreat
open Go.RowKit

/-- An address as one number: those of 32 bits come first. -/
def keyN (s : Bool) (H L : BitVec 64) : Nat := (if s then 340282366920938463463374607431768211456 else 0) + adrN H L
theorem adrN_eq (H L : BitVec 64) : adrN H L = H.toNat * 18446744073709551616 + L.toNat := by
  unfold adrN
  rw [BitVec.toNat_append, ← Nat.shiftLeft_add_eq_or_of_lt L.isLt, Nat.shiftLeft_eq]
theorem bvb (x : BitVec 64) : -9223372036854775808 ≤ x.toInt ∧ x.toInt ≤ 9223372036854775807 := by
  have h1 := BitVec.toInt_lt (x := x); have h2 := BitVec.le_toInt (x := x); simp at h1 h2; omega

theorem cmp_keys (s : Bool) (H L : BitVec 64) (s' : Bool) (H' L' : BitVec 64) (h : okB s H.toInt L.toInt = true) (h' : okB s' H'.toInt L'.toInt = true) (r0 r1 r2 q0 q1 q2 : Int)
    (hr : (s = true → r0 = 1 ∧ r1 = H.toNat) ∧ (s = false → r0 = 0 ∧ r1 = 0) ∧ r2 = L.toNat) (hq : (s' = true → q0 = 1 ∧ q1 = H'.toNat) ∧ (s' = false → q0 = 0 ∧ q1 = 0) ∧ q2 = L'.toNat) :
    cmp3 r0 r1 r2 q0 q1 q2 = cmpW (keyN s H L : Int) (keyN s' H' L' : Int) := by
  have a1 := H.isLt; have a2 := L.isLt; have a3 := H'.isLt; have a4 := L'.isLt
  have z : s = false → H.toNat = 0 := fun e => by subst e; rw [(okB_four H L h).1]; rfl
  have z' : s' = false → H'.toNat = 0 := fun e => by subst e; rw [(okB_four H' L' h').1]; rfl
  unfold keyN
  rw [adrN_eq, adrN_eq]
  generalize H.toNat = x at *
  generalize L.toNat = y at *
  generalize H'.toNat = x' at *
  generalize L'.toNat = y' at *
  obtain ⟨r, rf, rfl⟩ := hr
  obtain ⟨q, qf, rfl⟩ := hq
  cases s <;> cases s'
  · obtain ⟨rfl, rfl⟩ := rf rfl
    obtain ⟨rfl, rfl⟩ := qf rfl
    have z1 := z rfl; have z2 := z' rfl
    subst z1 z2
    unfold cmp3 cmpW
    simp
  · obtain ⟨rfl, rfl⟩ := rf rfl
    obtain ⟨rfl, rfl⟩ := q rfl
    have z1 := z rfl
    subst z1
    unfold cmp3 cmpW
    simp
    omega
  · obtain ⟨rfl, rfl⟩ := r rfl
    obtain ⟨rfl, rfl⟩ := qf rfl
    have z2 := z' rfl
    subst z2
    unfold cmp3 cmpW
    simp
    omega
  · obtain ⟨rfl, rfl⟩ := r rfl
    obtain ⟨rfl, rfl⟩ := q rfl
    unfold cmp3 cmpW
    rcases Int.lt_trichotomy (x : Int) (x' : Int) with hx | hx | hx
    · rw [if_neg (by omega), if_pos (by rw [if_pos hx]; omega), if_pos hx, if_pos (by simp; omega)]
    · have hxx : x = x' := by omega
      subst hxx
      rcases Int.lt_trichotomy (y : Int) (y' : Int) with hy | hy | hy
      · simp [hy]
      · have hyy : y = y' := by omega
        subst hyy; simp
      · have : ¬ (y : Int) < y' := by omega
        simp [hy, this]
    · have : ¬ (x : Int) < x' := by omega
      rw [if_neg (by omega), if_pos (by rw [if_neg this, if_pos hx]; omega), if_neg this, if_pos hx, if_neg (by simp; omega), if_pos (by simp; omega)]

theorem cmp_ok (s : Bool) (H L : BitVec 64) (s' : Bool) (H' L' : BitVec 64) (h : okB s H.toInt L.toInt = true) (h' : okB s' H'.toInt L'.toInt = true) :
      (∀ w : World, Calls Tryz.prog 88 #[.agg #[.bool s, .int .i64 H.toInt, .int .i64 L.toInt], .agg #[.bool s', .int .i64 H'.toInt, .int .i64 L'.toInt]] w fun e w' => e = .returned (.int .i64 (cmpW (keyN s H L : Int) (keyN s' H' L' : Int))) ∧ Below w.heap.size w w') ∧
      (∀ w : World, Calls Tryz.prog 119 #[.agg #[.bool s, .int .i64 H.toInt, .int .i64 L.toInt], .agg #[.bool s', .int .i64 H'.toInt, .int .i64 L'.toInt]] w fun e w' => e = .returned (.int .i64 (cmpW (keyN s H L : Int) (keyN s' H' L' : Int))) ∧ Below w.heap.size w w') := by
  have hz : Nrm s H.toInt L.toInt s H.toInt L.toInt := Or.inl ⟨h, rfl, rfl, rfl⟩
  have hz' : Nrm s' H'.toInt L'.toInt s' H'.toInt L'.toInt := Or.inl ⟨h', rfl, rfl, rfl⟩
  obtain ⟨r0, r1, r2, hr, rt, rf, r2e⟩ := Rank_ex s H.toInt L.toInt
  obtain ⟨q0, q1, q2, hr', qt, qf, q2e⟩ := Rank_ex s' H'.toInt L'.toInt
  have hi := iCmp_ne s H.toInt L.toInt s' H'.toInt L'.toInt s H.toInt L.toInt s' H'.toInt L'.toInt r0 r1 r2 q0 q1 q2 hz hr hz' hr'
  rw [wrapU] at rt r2e qt q2e
  have hk := cmp_keys s H L s' H' L' h h' r0 r1 r2 q0 q1 q2 ⟨rt, rf, r2e⟩ ⟨qt, qf, q2e⟩
  rw [hk] at hi
  refine ⟨?_, hi⟩
  rw [← hk]
  have bH := bvb H; have bL := bvb L; have bH' := bvb H'; have bL' := bvb L'
  have wH := wrapU H; have wL := wrapU L; have wH' := wrapU H'; have wL' := wrapU L'
  clear hi hk hr hr'
  subst r2e q2e
  cases s <;> cases s'
  · obtain ⟨rfl, rfl⟩ := rf rfl
    obtain ⟨rfl, rfl⟩ := qf rfl
    have e1 := (okB_four H L h).1; have e2 := (okB_four H' L' h').1
    subst e1 e2
    by_cases hL : L.toInt = L'.toInt
    · have hLL : L = L' := BitVec.eq_of_toInt_eq hL
      subst hLL
      rw [cmp3_eq]
      exact sCmp_eq false _ _ false _ _ false false _ _ _ _ hz hz' (fun wx => by rw [eqSt]; simp)
    · have hq : ∀ wx, (Op.equalIn 10000 64 (.agg #[.bool false, .int .i64 (0 : BitVec 64).toInt, .int .i64 L.toInt]) (.agg #[.bool false, .int .i64 (0 : BitVec 64).toInt, .int .i64 L'.toInt])).run Tryz.prog wx = .ok false wx := fun wx => by rw [eqSt]; simp [hL]
      have u0 : ult (0 : BitVec 64).toInt (0 : BitVec 64).toInt = false := by simp [ult]
      have ne : IntKind.u64.wrap L.toInt ≠ IntKind.u64.wrap L'.toInt := fun e => hL (u64_inj bL bL' e)
      cases u : ult L.toInt L'.toInt
      · rw [cmp3_gt2 (by have := ult_f u; omega)]
        exact sCmp_gt2 false _ _ false _ _ false _ _ _ _ hz hz' hq u0 (by simp) u
      · rw [cmp3_lt2 (by have := ult_t u; omega)]
        exact sCmp_lt2 false _ _ false _ _ false _ _ _ _ hz hz' hq u0 (by simp) u
  · obtain ⟨rfl, rfl⟩ := rf rfl
    obtain ⟨rfl, rfl⟩ := qt rfl
    rw [cmp3_lt0 (by omega)]
    exact sCmp_ft false _ _ true _ _ _ _ _ _ hz hz' (fun wx => by rw [eqSt]; simp)
  · obtain ⟨rfl, rfl⟩ := rt rfl
    obtain ⟨rfl, rfl⟩ := qf rfl
    rw [cmp3_gt0 (by omega)]
    exact sCmp_tf true _ _ false _ _ _ _ _ _ hz hz' (fun wx => by rw [eqSt]; simp)
  · obtain ⟨rfl, rfl⟩ := rt rfl
    obtain ⟨rfl, rfl⟩ := qt rfl
    by_cases hH : H.toInt = H'.toInt
    · have hHH : H = H' := BitVec.eq_of_toInt_eq hH
      subst hHH
      by_cases hL : L.toInt = L'.toInt
      · have hLL : L = L' := BitVec.eq_of_toInt_eq hL
        subst hLL
        rw [cmp3_eq]
        exact sCmp_eq true _ _ true _ _ true true _ _ _ _ hz hz' (fun wx => by rw [eqSt]; simp)
      · have hq : ∀ wx, (Op.equalIn 10000 64 (.agg #[.bool true, .int .i64 H.toInt, .int .i64 L.toInt]) (.agg #[.bool true, .int .i64 H.toInt, .int .i64 L'.toInt])).run Tryz.prog wx = .ok false wx := fun wx => by rw [eqSt]; simp [hL]
        have u0 : ult H.toInt H.toInt = false := by simp [ult]
        have ne : IntKind.u64.wrap L.toInt ≠ IntKind.u64.wrap L'.toInt := fun e => hL (u64_inj bL bL' e)
        cases u : ult L.toInt L'.toInt
        · rw [cmp3_gt2 (by have := ult_f u; omega)]
          exact sCmp_gt2 true _ _ true _ _ true _ _ _ _ hz hz' hq u0 (by simp) u
        · rw [cmp3_lt2 (by have := ult_t u; omega)]
          exact sCmp_lt2 true _ _ true _ _ true _ _ _ _ hz hz' hq u0 (by simp) u
    · have hq : ∀ wx, (Op.equalIn 10000 64 (.agg #[.bool true, .int .i64 H.toInt, .int .i64 L.toInt]) (.agg #[.bool true, .int .i64 H'.toInt, .int .i64 L'.toInt])).run Tryz.prog wx = .ok false wx := fun wx => by rw [eqSt]; simp [hH]
      have ne : IntKind.u64.wrap H.toInt ≠ IntKind.u64.wrap H'.toInt := fun e => hH (u64_inj bH bH' e)
      cases u : ult H.toInt H'.toInt
      · rw [cmp3_gt1 (by have := ult_f u; omega)]
        exact sCmp_gt1 true _ _ true _ _ true _ _ _ _ hz hz' hq u (by simp [hH])
      · rw [cmp3_lt1 (by have := ult_t u; omega)]
        exact sCmp_lt1 true _ _ true _ _ true _ _ _ _ hz hz' hq u

/-- The order of two prefixes. -/
def cmpP (p q : Pf) : Int := orI (cmpW (keyN p.s p.H p.L : Int) (keyN q.s q.H q.L : Int)) (cmpW p.b q.b)

theorem sCmpP (p q : Pf) (hp : pokB p.s p.H p.L p.b = true) (hq : pokB q.s q.H q.L q.b = true) (w : World) :
    Calls Tryz.prog 82 #[.agg #[.bool p.s, .int .i64 p.H.toInt, .int .i64 p.L.toInt, .int .i64 p.b], .agg #[.bool q.s, .int .i64 q.H.toInt, .int .i64 q.L.toInt, .int .i64 q.b]] w fun e w' => e = .returned (.int .i64 (cmpP p q)) ∧ Below w.heap.size w w' :=
  sCmpPrefix_any p.s p.H.toInt p.L.toInt p.b q.s q.H.toInt q.L.toInt q.b _ (cmp_ok p.s p.H p.L q.s q.H q.L (pokB_parts hp).1 (pokB_parts hq).1).1 w
theorem iCmpP (p q : Pf) (hp : pokB p.s p.H p.L p.b = true) (hq : pokB q.s q.H q.L q.b = true) (w : World) :
    Calls Tryz.prog 131 #[.agg #[.bool p.s, .int .i64 p.H.toInt, .int .i64 p.L.toInt, .int .i64 p.b], .agg #[.bool q.s, .int .i64 q.H.toInt, .int .i64 q.L.toInt, .int .i64 q.b]] w fun e w' => e = .returned (.int .i64 (cmpP p q)) ∧ Below w.heap.size w w' :=
  iCmpPrefix_any p.s p.H.toInt p.L.toInt p.b q.s q.H.toInt q.L.toInt q.b _ (cmp_ok p.s p.H p.L q.s q.H q.L (pokB_parts hp).1 (pokB_parts hq).1).2 w

end Go.Proofs.YtngcbhbcocnbeaaGreat
namespace Go.Proofs.YtngcbhbcocnbeaaGreat
open Go.RowKit

set_option maxHeartbeats 1000000 in
theorem toPrefix_any (s : Bool) (h l b : Int) (w : World) :
    Calls Tryz.prog 112 #[.agg #[.bool s, .int .i64 h, .int .i64 l, .int .i64 b]] w fun e w' => e = .returned (.agg #[.bool s, .int .i64 h, .int .i64 l, .int .i64 b]) ∧ Below w.heap.size w w' := by
  go_enter Tryz.func112, Tryz.ntmps112
  go_wp2_with fail
  refine (toAddr_any s h l _).mono ?_
  rintro e w1 ⟨rfl, hb1⟩
  have hz1 := hb1.size
  try simp at hz1
  have f10 : w.heap.size < w1.heap.size := by omega
  have f11 : w.heap.size + 1 < w1.heap.size := by omega
  have f12 : w.heap.size + 2 < w1.heap.size := by omega
  refine olds_k (w.heap.size + 3) hb1 ?_ ?_
  · first | omega | (simp; omega) | (simp; done)
  intro hc1 hf1
  go_wp2_with fail
  refine bodyPost_ret (v := .agg #[.bool s, .int .i64 h, .int .i64 l, .int .i64 b]) (by simp [results, Tryz.results112, go_sem, hc1]) rfl ⟨rfl, ?_⟩
  repeat (first | with_reducible exact Below.refl _ _ | (with_reducible refine Below.drew ?_) | (with_reducible refine Below.alloc ?_ ?_ _; rotate_left; (focus (first | omega | (simp; omega) | (simp; done)))) | (with_reducible refine Below.setCell ?_ ?_ _; rotate_left; (focus (first | omega | (simp; omega) | (simp; done)))) | (with_reducible refine Below.trans ?_ (hb1.mono ?_); rotate_left; (focus (first | omega | (simp; omega) | (simp; done)))))

end Go.Proofs.YtngcbhbcocnbeaaGreat
namespace Go.Proofs.YtngcbhbcocnbeaaGreat
open Go.RowKit

def Pf.zero : Pf := ⟨false, 0, 0, 0⟩

theorem flat_set : ∀ (ps : List Pf) (j : Nat) (q : Pf), j < ps.length → ((((flat ps).set (j * 4) (.bool q.s)).set (j * 4 + 1) (.int .i64 q.H.toInt)).set (j * 4 + 2) (.int .i64 q.L.toInt)).set (j * 4 + 3) (.int .i64 q.b) = flat (ps.set j q)
  | [], j, q, h => by simp at h
  | p :: t, 0, q, h => by simp [flat, Pf.cs]
  | p :: t, j + 1, q, h => by
      have ih := flat_set t j q (by simpa using h)
      have e : ∀ (i : Nat) (l : List Value) (v : Value), (p.cs ++ l).set ((j + 1) * 4 + i) v = p.cs ++ l.set (j * 4 + i) v := fun i l v => by
        rw [List.set_append_right _ _ (by simp [Pf.cs]; omega)]
        congr 2
        simp [Pf.cs]; omega
      have e0 := fun (l : List Value) (v : Value) => e 0 l v
      simp only [Nat.add_zero] at e0
      show ((((p.cs ++ flat t).set ((j + 1) * 4) (.bool q.s)).set ((j + 1) * 4 + 1) (.int .i64 q.H.toInt)).set ((j + 1) * 4 + 2) (.int .i64 q.L.toInt)).set ((j + 1) * 4 + 3) (.int .i64 q.b) = p.cs ++ flat (t.set j q)
      rw [e0, e 1, e 2, e 3, ih]

/-- One of a row is written. -/
theorem OwnR.put {t : TypeId} {w : World} {B g n cap : Nat} {ps : List Pf} (h : OwnR t w B (.slice (some ⟨g, 0, none⟩) n cap) ps) (hn : n = ps.length) (j : Nat) (hj : j < n) :
    (w.frozen? ⟨g, j * 4, none⟩ = false ∧ w.frozen? ⟨g, j * 4 + 1, none⟩ = false ∧ w.frozen? ⟨g, j * 4 + 2, none⟩ = false ∧ w.frozen? ⟨g, j * 4 + 3, none⟩ = false) ∧
    ∀ q : Pf, OwnR t ((((w.setCell ⟨g, j * 4, none⟩ (.bool q.s)).setCell ⟨g, j * 4 + 1, none⟩ (.int .i64 q.H.toInt)).setCell ⟨g, j * 4 + 2, none⟩ (.int .i64 q.L.toInt)).setCell ⟨g, j * 4 + 3, none⟩ (.int .i64 q.b)) B (.slice (some ⟨g, 0, none⟩) n cap) (ps.set j q) := by
  subst hn
  refine ⟨⟨World.ownsRow.frozenAt h _, World.ownsRow.frozenAt h _, World.ownsRow.frozenAt h _, World.ownsRow.frozenAt h _⟩, fun q => ?_⟩
  have h0 := (World.ownsRow.stored h (j * 4) (.bool q.s)).1
  have h1 := (World.ownsRow.stored h0 (j * 4 + 1) (.int .i64 q.H.toInt)).1
  have h2 := (World.ownsRow.stored h1 (j * 4 + 2) (.int .i64 q.L.toInt)).1
  have h3 := (World.ownsRow.stored h2 (j * 4 + 3) (.int .i64 q.b)).1
  rw [flat_set ps j q hj] at h3
  unfold OwnR
  rw [List.length_set]
  exact h3

end Go.Proofs.YtngcbhbcocnbeaaGreat
namespace Go.Proofs.YtngcbhbcocnbeaaGreat
open Go.RowKit

/-- A kind of things: its cells. -/
structure Kd (α : Type) where
  k : Nat
  cs : α → List Value
  len : ∀ x, (cs x).length = k
  one : ∀ x, ∀ u ∈ cs x, u.oneCell' = true

def gflat {α : Type} (K : Kd α) : List α → List Value
  | [] => []
  | p :: t => K.cs p ++ gflat K t
theorem gflat_len {α : Type} (K : Kd α) : ∀ ps : List α, (gflat K ps).length = ps.length * K.k
  | [] => by simp [gflat]
  | p :: t => by simp [gflat, gflat_len K t, K.len, Nat.add_mul]; omega
theorem gflat_at {α : Type} (K : Kd α) : ∀ (ps : List α) (j : Nat) (q : α), ps[j]? = some q → ∀ i, i < K.k → (gflat K ps)[j * K.k + i]? = (K.cs q)[i]?
  | [], j, q, h, i, hi => by simp at h
  | p :: t, 0, q, h, i, hi => by
      simp at h; subst h
      show (K.cs p ++ gflat K t)[0 * K.k + i]? = _
      rw [Nat.zero_mul, Nat.zero_add, List.getElem?_append_left (by rw [K.len]; exact hi)]
  | p :: t, j + 1, q, h, i, hi => by
      have := gflat_at K t j q (by simpa using h) i hi
      show (K.cs p ++ gflat K t)[(j + 1) * K.k + i]? = _
      rw [List.getElem?_append_right (by rw [K.len, Nat.add_mul]; omega), ← this]
      congr 1
      rw [K.len, Nat.add_mul]; omega

/-- What is read of a row. -/
def RowG {α : Type} (K : Kd α) (w : World) (a : Option Addr) (ps : List α) : Prop := ∀ j, j < ps.length → ∃ p o q, a = some ⟨p, o, none⟩ ∧ p < w.heap.size ∧ ps[j]? = some q ∧ ∀ i v, (K.cs q)[i]? = some v → w.cell? ⟨p, o + j * K.k + i, none⟩ = some v
/-- A row of one's own. -/
def OwnG {α : Type} (K : Kd α) (t : TypeId) (w : World) (B : Nat) (v : Value) (ps : List α) : Prop := w.ownsRow B t K.k v ps.length (gflat K ps)

theorem RowG.later {α : Type} {K : Kd α} {w w' : World} {a : Option Addr} {ps : List α} (h : RowG K w a ps) (hb : Below w.heap.size w w') : RowG K w' a ps := fun j hj => by
  obtain ⟨p, o, q, ha, hp, hq, c⟩ := h j hj
  exact ⟨p, o, q, ha, Nat.lt_of_lt_of_le hp hb.size, hq, fun i v hv => (hb.cell hp).trans (c i v hv)⟩
theorem RowG.nil {α : Type} (K : Kd α) (w : World) (a : Option Addr) : RowG K w a [] := fun j hj => absurd hj (Nat.not_lt_zero j)
theorem OwnG.row {α : Type} {K : Kd α} {t : TypeId} {w : World} {B n cap : Nat} {a : Option Addr} {ps : List α} (h : OwnG K t w B (.slice a n cap) ps) : RowG K w a ps := fun j hj => by
  rcases h.2 with ⟨hv, hn⟩ | ⟨g, c, cur, hv, _, hg, _⟩
  · omega
  · simp at hv
    obtain ⟨rfl, rfl, rfl⟩ := hv
    have hq : ps[j]? = some ps[j] := List.getElem?_eq_getElem hj
    refine ⟨g, 0, ps[j], rfl, ?_, hq, fun i v hv => ?_⟩
    · rcases Nat.lt_or_ge g w.heap.size with h' | h'
      · exact h'
      · rw [Array.getElem?_eq_none h'] at hg; cases hg
    · have hi : i < K.k := by
        rcases Nat.lt_or_ge i (K.cs ps[j]).length with h1 | h1
        · rw [K.len] at h1; exact h1
        · rw [List.getElem?_eq_none h1] at hv; cases hv
      have h2 : j * K.k + i < ps.length * K.k := by
        have : (j + 1) * K.k ≤ ps.length * K.k := Nat.mul_le_mul_right _ hj
        rw [Nat.add_mul] at this; omega
      have := World.ownsRow.cellAt h (j * K.k + i) h2
      rw [Nat.zero_add, this, gflat_at K ps j _ hq i hi, hv]
theorem OwnG.form {α : Type} {K : Kd α} {t : TypeId} {w : World} {B : Nat} {v : Value} {ps : List α} (h : OwnG K t w B v ps) : ∃ a c, v = .slice a ps.length c := by
  rcases h.2 with ⟨rfl, hn⟩ | ⟨g, c, cur, rfl, _⟩
  · exact ⟨none, 0, by rw [hn]⟩
  · exact ⟨_, _, rfl⟩
theorem OwnG.lt {α : Type} {K : Kd α} {t : TypeId} {w : World} {B : Nat} {v : Value} {ps : List α} (h : OwnG K t w B v ps) : ∀ k, v.ownBlock = some k → B ≤ k ∧ k < w.heap.size := World.ownsRow.lt h
theorem OwnG.alloc {α : Type} {K : Kd α} {t : TypeId} {w : World} {B : Nat} {v : Value} {ps : List α} (h : OwnG K t w B v ps) (o : Obj) : OwnG K t (w.alloc o) B v ps := World.ownsRow.alloc h o
theorem OwnG.mono {α : Type} {K : Kd α} {t : TypeId} {w : World} {B B' : Nat} {v : Value} {ps : List α} (h : OwnG K t w B v ps) (hb : B' ≤ B) : OwnG K t w B' v ps := by
  refine ⟨h.1, ?_⟩
  rcases h.2 with h' | ⟨g, c, cur, h1, h2, h3⟩
  · exact Or.inl h'
  · exact Or.inr ⟨g, c, cur, h1, Nat.le_trans hb h2, h3⟩
theorem OwnG.later {α : Type} {K : Kd α} {t : TypeId} {w w' : World} {B : Nat} {v : Value} {ps : List α} (h : OwnG K t w B v ps) (hb : Below w.heap.size w w') : OwnG K t w' B v ps := by
  refine ⟨h.1, ?_⟩
  rcases h.2 with h' | ⟨g, c, cur, h1, h2, h3, h4⟩
  · exact Or.inl h'
  · refine Or.inr ⟨g, c, cur, h1, h2, ?_, h4⟩
    have hg : g < w.heap.size := by
      rcases Nat.lt_or_ge g w.heap.size with h' | h'
      · exact h'
      · rw [Array.getElem?_eq_none h'] at h3; cases h3
    exact (hb.block g hg).trans h3
/-- A row of one's own stands where another block turns. -/
theorem OwnG.grown {α : Type} {K : Kd α} {t : TypeId} {w w' : World} {B : Nat} {v : Value} {ps : List α} {b : Option Nat} (h : OwnG K t w B v ps) (hg : w.grownBy w' b) (hn : ∀ k, v.ownBlock = some k → b ≠ some k) : OwnG K t w' B v ps := by
  refine ⟨h.1, ?_⟩
  rcases h.2 with h' | ⟨g, c, cur, h1, h2, h3, h4⟩
  · exact Or.inl h'
  · refine Or.inr ⟨g, c, cur, h1, h2, ?_, h4⟩
    have hgl : g < w.heap.size := by
      rcases Nat.lt_or_ge g w.heap.size with h' | h'
      · exact h'
      · rw [Array.getElem?_eq_none h'] at h3; cases h3
    have := hg.block g hgl (fun e => hn g (by rw [h1]; rfl) e.symm)
    exact this.trans h3
theorem OwnG.caps {α : Type} {K : Kd α} {t : TypeId} {w : World} {B n c : Nat} {a : Option Addr} {ps : List α} (h : OwnG K t w B (.slice a n c) ps) : n = ps.length ∧ ps.length ≤ c ∧ c ≤ 9223372036854775807 ∧ (a = none → c = 0) := by
  rcases h.2 with ⟨hv, hn⟩ | ⟨g, c', cur, hv, _, _, h1, h2, _⟩
  · simp at hv; obtain ⟨rfl, rfl, rfl⟩ := hv; exact ⟨hn.symm, by omega, by omega, fun _ => rfl⟩
  · simp at hv
    obtain ⟨rfl, rfl, rfl⟩ := hv
    exact ⟨rfl, h1, by unfold maxLen at h2; omega, fun h => by cases h⟩

/-- The type's facts of such rows. -/
def GTy {α : Type} (K : Kd α) (z : Value) (bytes : Nat) (P : Program) (t e : TypeId) : Prop := P.underlying t = some (.slice e) ∧ (P.info? e).map (fun i => (i.zero, i.size, i.bytes)) = some (some z, K.k, bytes) ∧ z.cells.size = K.k ∧ bytes ≤ 1000

theorem own_oneG {α : Type} (K : Kd α) (w : World) (B : Nat) (t : TypeId) (q : α) (hB : B ≤ w.heap.size) : OwnG K t (w.alloc (.cells (K.cs q).toArray t)) B (.slice (some ⟨w.heap.size, 0, none⟩) 1 1) [q] :=
  ⟨by simp [gflat, K.len], Or.inr ⟨w.heap.size, 1, _, rfl, hB, heap_alloc_new w _, Nat.le_refl _, by unfold maxLen; omega, by simp [K.len], by show List.take (1 * K.k) (K.cs q) = K.cs q ++ []; rw [List.append_nil, List.take_of_length_le (by rw [K.len]; omega)]⟩⟩
/-- Cells written one behind the other. -/
def puts (w : World) (g off : Nat) : List Value → World
  | [] => w
  | v :: vs => puts (w.setCell ⟨g, off, none⟩ v) g (off + 1) vs
def sets (l : List Value) (off : Nat) : List Value → List Value
  | [] => l
  | v :: vs => sets (l.set off v) (off + 1) vs
theorem sets_right (a b : List Value) : ∀ (vs : List Value) (off : Nat), sets (a ++ b) (a.length + off) vs = a ++ sets b off vs
  | [], off => rfl
  | v :: vs, off => by
      show sets ((a ++ b).set (a.length + off) v) (a.length + off + 1) vs = a ++ sets (b.set off v) (off + 1) vs
      rw [List.set_append_right _ _ (by omega), Nat.add_sub_cancel_left, Nat.add_assoc]
      have := sets_right a (b.set off v) vs (off + 1)
      exact this
theorem sets_all : ∀ (vs l t : List Value), l.length = vs.length → sets (l ++ t) 0 vs = vs ++ t
  | [], l, t, h => by
      have : l = [] := List.length_eq_zero_iff.1 h
      subst this; rfl
  | v :: vs, [], t, h => by simp at h
  | v :: vs, x :: l, t, h => by
      show sets ((x :: (l ++ t)).set 0 v) (0 + 1) vs = v :: (vs ++ t)
      rw [List.set_cons_zero]
      have := sets_right [v] (l ++ t) vs 0
      simp only [List.length_singleton, Nat.add_zero] at this
      rw [Nat.zero_add]
      show sets ([v] ++ (l ++ t)) 1 vs = _
      rw [this, sets_all vs l t (by simpa using h)]
      rfl
theorem gflat_set {α : Type} (K : Kd α) : ∀ (ps : List α) (j : Nat) (q : α), j < ps.length → sets (gflat K ps) (j * K.k) (K.cs q) = gflat K (ps.set j q)
  | [], j, q, h => by simp at h
  | p :: t, 0, q, h => by
      rw [Nat.zero_mul]
      show sets (K.cs p ++ gflat K t) 0 (K.cs q) = K.cs q ++ gflat K t
      exact sets_all _ _ _ (by rw [K.len, K.len])
  | p :: t, j + 1, q, h => by
      have ih := gflat_set K t j q (by simpa using h)
      show sets (K.cs p ++ gflat K t) ((j + 1) * K.k) (K.cs q) = K.cs p ++ gflat K (t.set j q)
      have e : (j + 1) * K.k = (K.cs p).length + j * K.k := by rw [K.len, Nat.add_mul]; omega
      rw [e, sets_right, ih]
theorem puts_own {t : TypeId} {g n cap : Nat} {B k : Nat} : ∀ (vs : List Value) (w : World) (xs : List Value) (off : Nat), w.ownsRow B t k (.slice (some ⟨g, 0, none⟩) n cap) n xs → (puts w g off vs).ownsRow B t k (.slice (some ⟨g, 0, none⟩) n cap) n (sets xs off vs)
  | [], _, _, _, h => h
  | v :: vs, _, _, off, h => puts_own vs _ _ (off + 1) (World.ownsRow.stored h off v).1

/-- One of a row is written. -/
theorem OwnG.put {α : Type} {K : Kd α} {t : TypeId} {w : World} {B g n cap : Nat} {ps : List α} (h : OwnG K t w B (.slice (some ⟨g, 0, none⟩) n cap) ps) (hn : n = ps.length) (j : Nat) (hj : j < n) (q : α) :
    OwnG K t (puts w g (j * K.k) (K.cs q)) B (.slice (some ⟨g, 0, none⟩) n cap) (ps.set j q) := by
  subst hn
  have := puts_own (K.cs q) w _ (j * K.k) h
  rw [gflat_set K ps j q hj] at this
  unfold OwnG
  rw [List.length_set]
  exact this
theorem OwnG.frozen {α : Type} {K : Kd α} {t : TypeId} {w : World} {B g n cap : Nat} {ps : List α} (h : OwnG K t w B (.slice (some ⟨g, 0, none⟩) n cap) ps) (o : Nat) : w.frozen? ⟨g, o, none⟩ = false := by
  have hn := h.caps.1
  subst hn
  exact World.ownsRow.frozenAt h o
theorem grown_cellG (w : World) (g o : Nat) (v : Value) : w.grownBy (w.setCell ⟨g, o, none⟩ v) (some g) :=
  ⟨rfl, rfl, rfl, by simp, fun k _ hk => heap_setCell_other w ⟨g, o, none⟩ k v (fun e => hk (by simp [e]))⟩
/-- A new row of noughts. -/
theorem made_gen {α : Type} (K : Kd α) (z : α) (hk : 0 < K.k) (v : Value) (hv : v.cells.toList = K.cs z) (n : Nat) : (madeCells v.cells (n * K.k)).toList = gflat K (List.replicate n z) := by
  apply List.ext_getElem?
  intro j
  by_cases hj : j < n * K.k
  · have hm : j / K.k * K.k + j % K.k = j := by rw [Nat.mul_comm]; exact Nat.div_add_mod j K.k
    have hq : (List.replicate n z)[j / K.k]? = some z := by rw [List.getElem?_replicate, if_pos (Nat.div_lt_of_lt_mul (by rw [Nat.mul_comm]; exact hj))]
    have f := gflat_at K _ (j / K.k) _ hq (j % K.k) (Nat.mod_lt _ hk)
    rw [hm] at f
    rw [f, ← hv]
    have hs : v.cells.size = K.k := by rw [← Array.length_toList, hv, K.len]
    have e : (madeCells v.cells (n * K.k)).toList[j]? = some (v.cells[j % K.k]!) := by
      rw [Array.getElem?_toList]
      unfold madeCells
      rw [Array.getElem?_map, Array.getElem?_range, if_pos hj, hs]
      rfl
    rw [e]
    have hlt : j % K.k < v.cells.size := by rw [hs]; exact Nat.mod_lt _ hk
    rw [Array.getElem?_toList, Array.getElem?_eq_getElem hlt, getElem!_pos v.cells (j % K.k) hlt]
  · rw [List.getElem?_eq_none (by rw [Array.length_toList, size_madeCells]; omega), List.getElem?_eq_none (by rw [gflat_len, List.length_replicate]; omega)]
/-- One more of the row is copied. -/
theorem copy_stepG {α : Type} (z : α) (ps : List α) (k : Nat) (q : α) (hk : k < ps.length) (hq : ps[k]? = some q) : (ps.take k ++ List.replicate (ps.length - k) z).set k q = ps.take (k + 1) ++ List.replicate (ps.length - (k + 1)) z := by
  have e : ps.length - k = ps.length - (k + 1) + 1 := by omega
  rw [e, List.replicate_succ, List.set_append_right _ _ (by rw [List.length_take]; omega)]
  have e2 : k - (ps.take k).length = 0 := by rw [List.length_take]; omega
  rw [e2, List.set_cons_zero, List.take_add_one, hq]
  simp

/-- Marks, one behind the other. -/
def mksG {α : Type} (f : Nat → α) (n : Nat) : List α := (List.range n).map f
theorem mksG_len {α : Type} (f : Nat → α) (n : Nat) : (mksG f n).length = n := by simp [mksG]
theorem mksG_step {α : Type} (f : Nat → α) (n i : Nat) (ps : List α) (hl : ps.length = n) (hi : i < n) : (mksG f i ++ ps.drop i).set i (f i) = mksG f (i + 1) ++ ps.drop (i + 1) := by
  have e : mksG f (i + 1) = mksG f i ++ [f i] := by simp [mksG, List.range_succ]
  have hd : ps.drop i = ps[i] :: ps.drop (i + 1) := List.drop_eq_getElem_cons (by omega)
  rw [e, hd, List.set_append_right _ _ (by simp [mksG])]
  have e0 : i - (mksG f i).length = 0 := by rw [mksG_len]; omega
  rw [e0, List.set_cons_zero, List.append_assoc]
  rfl

/-- A row out of its single readings. -/
theorem rowsG_of {α : Type} {K : Kd α} {W : World} (a : Option Addr) : ∀ n : Nat, (∀ j, j < n → ∃ p o q, a = some ⟨p, o, none⟩ ∧ p < W.heap.size ∧ ∀ i v, (K.cs q)[i]? = some v → W.cell? ⟨p, o + j * K.k + i, none⟩ = some v) → ∃ ps : List α, ps.length = n ∧ RowG K W a ps
  | 0, _ => ⟨[], rfl, RowG.nil _ _ _⟩
  | n + 1, h => by
      obtain ⟨ps, hl, hb⟩ := rowsG_of a n (fun j hj => h j (by omega))
      obtain ⟨p, o, q, ha, hp, c⟩ := h n (by omega)
      refine ⟨ps ++ [q], by simp [hl], fun j hj => ?_⟩
      by_cases hjn : j < n
      · obtain ⟨p', o', z, ha', hp', hz, hc'⟩ := hb j (by omega)
        exact ⟨p', o', z, ha', hp', by rw [List.getElem?_append_left (by omega)]; exact hz, hc'⟩
      · have : j = n := by simp at hj; omega
        subst this
        exact ⟨p, o, q, ha, hp, by rw [List.getElem?_append_right (by omega), hl]; simp, c⟩

end Go.Proofs.YtngcbhbcocnbeaaGreat
namespace Go.Proofs.YtngcbhbcocnbeaaGreat
open Go.RowKit

set_option maxHeartbeats 1000000 in
theorem eqA_same (s : Bool) (h l : Int) (w : World) :
    Calls Tryz.prog 127 #[.agg #[.bool s, .int .i64 h, .int .i64 l], .agg #[.bool s, .int .i64 h, .int .i64 l]] w fun e w' => e = .returned (.bool true) ∧ Below w.heap.size w w' := by
  go_enter Tryz.func127, Tryz.ntmps127
  go_wp2
  go_ret
  refine ⟨rfl, ?_⟩
  repeat (first | with_reducible exact Below.refl _ _ | (with_reducible refine Below.drew ?_) | (with_reducible refine Below.alloc ?_ ?_ _; rotate_left; (focus (first | omega | (simp; omega) | (simp; done)))) | (with_reducible refine Below.setCell ?_ ?_ _; rotate_left; (focus (first | omega | (simp; omega) | (simp; done)))))

end Go.Proofs.YtngcbhbcocnbeaaGreat
namespace Go.Proofs.YtngcbhbcocnbeaaGreat
open Go.RowKit

set_option maxHeartbeats 1000000 in
theorem eqP_same (s : Bool) (h l b : Int) (w : World) :
    Calls Tryz.prog 126 #[.agg #[.bool s, .int .i64 h, .int .i64 l, .int .i64 b], .agg #[.bool s, .int .i64 h, .int .i64 l, .int .i64 b]] w fun e w' => e = .returned (.bool true) ∧ Below w.heap.size w w' := by
  go_enter Tryz.func126, Tryz.ntmps126
  go_wp2_with fail
  refine (eqA_same s h l _).mono ?_
  rintro e w1 ⟨rfl, hb1⟩
  have hz1 := hb1.size
  try simp at hz1
  have f10 : w.heap.size < w1.heap.size := by omega
  have f11 : w.heap.size + 1 < w1.heap.size := by omega
  refine olds_k (w.heap.size + 2) hb1 ?_ ?_
  · first | omega | (simp; omega) | (simp; done)
  intro hc1 hf1
  go_wp2_with fail
  go_ret
  refine ⟨rfl, ?_⟩
  repeat (first | with_reducible exact Below.refl _ _ | (with_reducible refine Below.drew ?_) | (with_reducible refine Below.alloc ?_ ?_ _; rotate_left; (focus (first | omega | (simp; omega) | (simp; done)))) | (with_reducible refine Below.setCell ?_ ?_ _; rotate_left; (focus (first | omega | (simp; omega) | (simp; done)))) | (with_reducible refine Below.trans ?_ (hb1.mono ?_); rotate_left; (focus (first | omega | (simp; omega) | (simp; done)))))

end Go.Proofs.YtngcbhbcocnbeaaGreat
namespace Go.Proofs.YtngcbhbcocnbeaaGreat
open Go.ChangeShapes Go.WideShapes Go.ChangeAt Go.RowKit Go.Joins Go.Deep

theorem wfP {x : Int} (h : (Lit.int .i64 x).wf = true) : (BitVec.ofInt 64 x).toInt = x := by
  have : -9223372036854775808 ≤ x ∧ x ≤ 9223372036854775807 := by simpa [Lit.wf, IntKind.min, IntKind.max, IntKind.signed, IntKind.bits] using h
  rw [BitVec.toInt_ofInt, Int.bmod_def]
  split <;> omega

/-- One prefix out of its four cells. -/
theorem pf_of {H : Type} {enc : TypeId × Value → H} {W : World} {fuel : Nat} {cs : List Value} {x : DataW H × List MemPlace} (hl : cs.length = 4)
    (h : DataW.trod enc Tryz.prog W 0 (fun _ => true) true fuel 130 cs = some x) : ∃ q : Pf, cs = q.cs := by
  match cs, hl with
  | [c0, c1, c2, c3], _ =>
    obtain ⟨z0, z1, n, hx, _, h0, h1⟩ := trod_struct2 Tryz.underlying130 h
    obtain ⟨y0, y1, y2, m, hy, _, j0, j1, j2⟩ := trod_struct3 Tryz.underlying128 h0
    have k0 : Tryz.prog.cellsOf 128 = 3 := by kernel_rfl
    have ki : Tryz.prog.cellsOf 3 = 1 := by kernel_rfl
    have kb : Tryz.prog.cellsOf 4 = 1 := by kernel_rfl
    simp [k0, ki, kb] at h1 j0 j1 j2
    obtain ⟨s, e0, _⟩ := DataW.trod_bool Tryz.underlying4 j0
    obtain ⟨a, e1, _, wa⟩ := DataW.trod_int Tryz.underlying3 j1
    obtain ⟨b, e2, _, wb⟩ := DataW.trod_int Tryz.underlying3 j2
    obtain ⟨c, e3, _, wc⟩ := DataW.trod_int Tryz.underlying3 h1
    simp at e0 e1 e2 e3
    subst e0 e1 e2 e3
    refine ⟨⟨s, BitVec.ofInt 64 a, BitVec.ofInt 64 b, c⟩, ?_⟩
    unfold Pf.cs
    rw [wfP wa, wfP wb]

end Go.Proofs.YtngcbhbcocnbeaaGreat
