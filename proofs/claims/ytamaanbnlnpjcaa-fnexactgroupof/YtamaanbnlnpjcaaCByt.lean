/-
  Rows of bytes, as memory holds them, and what the laws' own functions do with them (toByteS, eqByteS, markByteS, heldByteS), by their plain twins; nothing old in memory turns but what is marked.
-/
import Derived.Test.YtamaanbnlnpjcaaRows
import Derived.WalkKit
import Derived.WalkSpells
import Derived.WalkLawsBesides
import Derived.Deep.QuietTactic
import Derived.BigQuiet
import Derived.Deep.AppendLies
namespace Go.Proofs.Ytamaanbnlnpjcaa
open Go.RowKit

theorem hid' {p : Prop} (h : p) : Hid p := h
/-- The bytes zs lie in memory from a on. -/
def Byt (w : World) (a : Option Addr) (zs : List Int) : Prop := ∀ j, j < zs.length → ∃ p o z, a = some ⟨p, o, none⟩ ∧ p < w.heap.size ∧ w.cell? ⟨p, o + j, none⟩ = some (.int .u8 z) ∧ zs[j]? = some z
/-- Each is a byte. -/
def Oct (zs : List Int) : Prop := ∀ z ∈ zs, 0 ≤ z ∧ z ≤ 255
/-- A row of bytes that the call itself has made. -/
def Own (w : World) (B : Nat) (v : Value) (zs : List Int) : Prop := w.ownsRow B 5 1 v zs.length (zs.map (Value.int .u8))

theorem Byt.later {w w' : World} {a : Option Addr} {zs : List Int} (h : Byt w a zs) (hb : Below w.heap.size w w') : Byt w' a zs := fun j hj => by
  obtain ⟨p, o, z, ha, hp, hc, hz⟩ := h j hj
  exact ⟨p, o, z, ha, Nat.lt_of_lt_of_le hp hb.size, (hb.cell hp).trans hc, hz⟩
theorem below_eq {w w' : World} (h : w = w') : Below w.heap.size w w' := by subst h; exact Below.refl _ _
theorem Byt.nil (w : World) (a : Option Addr) : Byt w a [] := fun j hj => absurd hj (Nat.not_lt_zero j)
theorem Own.byt {w : World} {B g n cap : Nat} {zs : List Int} (h : Own w B (.slice (some ⟨g, 0, none⟩) n cap) zs) (hn : n = zs.length) : Byt w (some ⟨g, 0, none⟩) zs := fun j hj => by
  subst hn
  have hc := World.ownsRow.cellAt h j (by omega)
  have e : zs[j]? = some zs[j] := List.getElem?_eq_getElem hj
  have hlt := (World.ownsRow.lt h) g rfl
  refine ⟨g, 0, zs[j], rfl, hlt.2, ?_, e⟩
  rw [Nat.zero_add, hc, List.getElem?_map, e]; rfl
theorem Own.form {w : World} {B : Nat} {v : Value} {zs : List Int} (h : Own w B v zs) : ∃ a cap, v = .slice a zs.length cap ∧ Byt w a zs := by
  rcases h.2 with ⟨hv, h0⟩ | ⟨g, cap, cur, hv, hb, hg, h1, h2, h3, h4⟩
  · have : zs = [] := List.length_eq_zero_iff.1 h0
    subst this
    exact ⟨none, 0, hv, Byt.nil _ _⟩
  · have h' : Own w B (.slice (some ⟨g, 0, none⟩) zs.length cap) zs := by rw [← hv]; exact h
    exact ⟨some ⟨g, 0, none⟩, cap, hv, h'.byt rfl⟩
theorem Own.bytA {w : World} {B n cap : Nat} {a : Option Addr} {zs : List Int} (h : Own w B (.slice a n cap) zs) : Byt w a zs := by
  obtain ⟨a', c', e, hb⟩ := h.form
  simp at e
  rw [e.1]; exact hb
/-- A row that another one's turning does not touch. -/
theorem Own.kept {w w' : World} {B : Nat} {v u : Value} {zs : List Int} (h : Own w B v zs) (hg : w.grownBy w' u.ownBlock) (hne : ∀ k, v.ownBlock = some k → u.ownBlock = some k → False) : Own w' B v zs := by
  refine World.ownsRow.kept h hg ?_
  cases hv : v.ownBlock with
  | none => exact Or.inl rfl
  | some k => exact Or.inr (fun e => hne k hv e.symm)
theorem Own.lt {w : World} {B : Nat} {v : Value} {zs : List Int} (h : Own w B v zs) : ∀ k, v.ownBlock = some k → B ≤ k ∧ k < w.heap.size := World.ownsRow.lt h
theorem Own.alloc {w : World} {B : Nat} {v : Value} {zs : List Int} (h : Own w B v zs) (o : Obj) : Own (w.alloc o) B v zs := World.ownsRow.alloc h o
theorem Own.mono {w : World} {B B' : Nat} {v : Value} {zs : List Int} (h : Own w B v zs) (hb : B' ≤ B) : Own w B' v zs := by
  refine ⟨h.1, ?_⟩
  rcases h.2 with h1 | ⟨g, cap, cur, hv, hg, hr⟩
  · exact Or.inl h1
  · exact Or.inr ⟨g, cap, cur, hv, Nat.le_trans hb hg, hr⟩
theorem Own.later {w w' : World} {B : Nat} {v : Value} {zs : List Int} (h : Own w B v zs) (hb : Below w.heap.size w w') : Own w' B v zs := by
  refine ⟨h.1, ?_⟩
  rcases h.2 with h1 | ⟨g, cap, cur, hv, hg, hr, hr'⟩
  · exact Or.inl h1
  · refine Or.inr ⟨g, cap, cur, hv, hg, (hb.block g ?_).trans hr, hr'⟩
    rcases Nat.lt_or_ge g w.heap.size with hlt | hge
    · exact hlt
    · rw [Array.getElem?_eq_none hge] at hr; cases hr

theorem Try.infoU8 : (Try.prog.info? 5).map (fun i => (i.zero, i.size, i.bytes)) = some (some (.int .u8 0), 1, 1) := by kernel_rfl

theorem step_set (zs : List Int) (k : Nat) (z : Int) (hk : k < zs.length) (hz : zs[k]? = some z) :
    ((zs.take k).map (Value.int .u8) ++ List.replicate (zs.length - k) (Value.int .u8 0)).set k (.int .u8 z) = (zs.take (k + 1)).map (Value.int .u8) ++ List.replicate (zs.length - (k + 1)) (Value.int .u8 0) := by
  have e : zs.length - k = (zs.length - (k + 1)) + 1 := by omega
  have hl : ((zs.take k).map (Value.int .u8)).length = k := by simp; omega
  have hzk : zs[k] = z := by rw [List.getElem?_eq_getElem hk] at hz; simpa using hz
  rw [e, List.replicate_succ, List.set_append_right _ _ (by omega), hl, Nat.sub_self, List.set_cons_zero, List.take_succ_eq_append_getElem hk, hzk]
  simp

set_option maxHeartbeats 1000000 in
theorem toByteS_any (a : Option Addr) (cap : Nat) (zs : List Int) (w : World) (hB : Byt w a zs) (hl : zs.length ≤ 1048576) :
    Calls Try.prog 51 #[.slice a zs.length cap] w fun e w' => e = .returned (.slice (some ⟨w.heap.size, 0, none⟩) zs.length zs.length) ∧ Own w' w.heap.size (.slice (some ⟨w.heap.size, 0, none⟩) zs.length zs.length) zs ∧ Below w.heap.size w w' := by
  obtain ⟨i0, hi, hz0, hz1, hz2⟩ := info_parts Try.infoU8
  have HB : Hid (Byt w a zs) := hB
  clear hB
  obtain ⟨n, hn⟩ : ∃ n, n = zs.length := ⟨_, rfl⟩
  rw [← hn] at hl ⊢
  have HN : Hid (n = zs.length) := hn
  clear hn
  go_enter Try.func51, Try.ntmps51
  go_wp2_with (refine wpList_make_full _ rfl (.tmp 6) (.tmp 6) 22 rfl w.heap.size 5 i0 (.int .u8 0) 1 Try.underlying22 hi hz0 hz1 .i64 .i64 n n n rfl rfl rfl rfl (by rw [hz2]; omega) (by unfold maxLen; omega) (Nat.le_refl _) ?_; intro w1 hown hgrow)
  have HO : Hid (w1.ownsRow w.heap.size 5 1 (.slice (some ⟨w.heap.size, 0, none⟩) n n) n ((zs.take 0).map (Value.int .u8) ++ List.replicate (zs.length - 0) (Value.int .u8 0))) := by
    have e : (madeCells (Value.int .u8 0).cells (n * 1)).toList = List.replicate n (Value.int .u8 0) := by rw [Nat.mul_one]; exact toList_madeCells_one _ _
    rw [e] at hown
    unfold Hid; rw [Nat.sub_zero, ← HN.out]; simpa using hown
  have HW : Hid (Below w.heap.size w w1) := (Below.refl _ w).grown hgrow (Nat.le_refl _) (fun k hk => by cases hk)
  clear hown hgrow
  go_loopw [4] (fun t4 wr => ∃ k : Nat, k ≤ n ∧ t4 = .int .i64 k ∧ wr.ownsRow w.heap.size 5 1 (.slice (some ⟨w.heap.size, 0, none⟩) n n) n ((zs.take k).map (Value.int .u8) ++ List.replicate (zs.length - k) (Value.int .u8 0)) ∧ Below w.heap.size w wr) (fun t4 _ => n - (intOf t4).toNat)
  case atStart => exact ⟨0, Nat.zero_le _, rfl, HO.out, HW.out⟩
  case round =>
    obtain ⟨k, hk, rfl, hown, hbel⟩ := hrel
    by_cases hlt : k < n
    · obtain ⟨p, o, z, rfl, hp, hc, hz⟩ := HB.out k (by rw [← HN.out]; exact hlt)
      have cv : wr.cell? ⟨p, o + k, none⟩ = some (.int .u8 z) := (hbel.cell hp).trans hc
      have ce : ∃ v, wr.cell? ⟨w.heap.size, k, none⟩ = some v := by
        have h := hown.cellAt k (by omega)
        rw [h, List.getElem?_eq_getElem (by have := HN.out; simp; omega)]
        exact ⟨_, rfl⟩
      obtain ⟨v0, ce⟩ := ce
      have cf := hown.frozenAt k
      have st := hown.stored k (.int .u8 z)
      rw [step_set zs k z (by rw [← HN.out]; exact hlt) hz] at st
      have HS : Hid (_ ∧ _) := st
      have HBel : Hid (Below w.heap.size w wr) := hbel
      clear st hown hbel hc hz HO HW
      go_wp2
      go_roundw
      case rel => exact ⟨k + 1, by omega, by go_num, HS.out.1, HBel.out.setCell (Nat.le_refl _) _⟩
      case measure => simp [intOf]; omega
    · have hkn : k = n := by omega
      subst hkn
      have HO2 : Hid (Own wr w.heap.size (.slice (some ⟨w.heap.size, 0, none⟩) k k) zs) := by
        unfold Hid Own; have e := HN.out; rw [e] at hown ⊢; simpa using hown
      have HBel : Hid (Below w.heap.size w wr) := hbel
      clear hown hbel HO HW
      go_wp2
      go_ret
      exact ⟨rfl, HO2.out, HBel.out⟩

theorem toByteS_ex (a : Option Addr) (cap : Nat) (zs : List Int) (w : World) (hB : Byt w a zs) (hl : zs.length ≤ 1048576) :
    Calls Try.prog 51 #[.slice a zs.length cap] w fun e w' => ∃ g, e = .returned (.slice (some ⟨g, 0, none⟩) zs.length zs.length) ∧ Own w' w.heap.size (.slice (some ⟨g, 0, none⟩) zs.length zs.length) zs ∧ Below w.heap.size w w' :=
  (toByteS_any a cap zs w hB hl).mono fun _ _ h => ⟨w.heap.size, h.1, h.2.1, h.2.2⟩

/-- Are two rows alike? -/
def eqL (xs ys : List Int) : Bool := decide (xs = ys)
theorem eqL_same (xs : List Int) : eqL xs xs = true := by simp [eqL]
theorem eqL_len {xs ys : List Int} (h : xs.length ≠ ys.length) : eqL xs ys = false := by
  unfold eqL; rw [decide_eq_false_iff_not]; intro e; exact h (by rw [e])
theorem eqL_at {xs ys : List Int} (k : Nat) {x y : Int} (hx : xs[k]? = some x) (hy : ys[k]? = some y) (h : x ≠ y) : eqL xs ys = false := by
  unfold eqL; rw [decide_eq_false_iff_not]; intro e; rw [e] at hx; rw [hx] at hy; exact h (by simpa using hy)
theorem eqL_all {xs ys : List Int} (hl : xs.length = ys.length) (h : ∀ j, j < xs.length → xs[j]? = ys[j]?) : eqL xs ys = true := by
  unfold eqL; rw [decide_eq_true_eq]
  apply List.ext_getElem?
  intro j
  by_cases hj : j < xs.length
  · exact h j hj
  · rw [List.getElem?_eq_none (by omega), List.getElem?_eq_none (by omega)]

set_option maxHeartbeats 1000000 in
theorem eqByteS_any (a b : Option Addr) (c d : Nat) (xs ys : List Int) (w : World) (ha : Byt w a xs) (hb : Byt w b ys) (hl : xs.length ≤ 9000000000) (hm : ys.length ≤ 9000000000) :
    Calls Try.prog 53 #[.slice a xs.length c, .slice b ys.length d] w fun e w' => e = .returned (.bool (eqL xs ys)) ∧ Below w.heap.size w w' := by
  obtain ⟨n, hn⟩ : ∃ n, n = xs.length := ⟨_, rfl⟩
  obtain ⟨m, hmm⟩ : ∃ m, m = ys.length := ⟨_, rfl⟩
  rw [← hn, ← hmm]
  rw [← hn] at hl
  rw [← hmm] at hm
  by_cases hnm : n = m
  · subst hnm
    have HA : Hid (Byt w a xs) := ha
    have HB : Hid (Byt w b ys) := hb
    have HN : Hid (n = xs.length) := hn
    have HM : Hid (n = ys.length) := hmm
    clear ha hb hn hmm
    go_enter Try.func53, Try.ntmps53
    go_wp2
    go_loopw [5] (fun t5 wr => ∃ k : Nat, k ≤ n ∧ t5 = .int .i64 k ∧ (∀ j, j < k → xs[j]? = ys[j]?) ∧ Below w.heap.size w wr) (fun t5 _ => n - (intOf t5).toNat)
    case atStart => exact ⟨0, Nat.zero_le _, rfl, fun j hj => absurd hj (Nat.not_lt_zero j), Below.refl _ _⟩
    case round =>
      obtain ⟨k, hk, rfl, heq, hbel⟩ := hrel
      have HE : Hid (∀ j, j < k → xs[j]? = ys[j]?) := heq
      have HW : Hid (Below w.heap.size w wr) := hbel
      by_cases hlt : k < n
      · obtain ⟨p, o, x, rfl, hp, hc, hx⟩ := HA.out k (by rw [← HN.out]; exact hlt)
        obtain ⟨q, r, y, rfl, hq, hd, hy⟩ := HB.out k (by rw [← HM.out]; exact hlt)
        have c1 : wr.cell? ⟨p, o + k, none⟩ = some (.int .u8 x) := (hbel.cell hp).trans hc
        have c2 : wr.cell? ⟨q, r + k, none⟩ = some (.int .u8 y) := (hbel.cell hq).trans hd
        have HX : Hid (xs[k]? = some x) := hx
        have HY : Hid (ys[k]? = some y) := hy
        clear hc hd heq hbel hx hy
        by_cases hxy : x = y
        · subst hxy
          have hb1 : (x != x) = false := by simp
          go_wp2_with fail
          go_region
          all_goals
            go_wp2
            go_roundw
            case rel =>
              refine ⟨k + 1, by omega, by go_num, fun j hj => ?_, HW.out.drew⟩
              by_cases hjk : j = k
              · subst hjk; rw [HX.out, HY.out]
              · exact HE.out j (by omega)
            case measure => simp [intOf]; omega
        · have hb1 : (x != y) = true := by simp [hxy]
          have HF : Hid (eqL xs ys = false) := eqL_at k HX.out HY.out hxy
          clear hxy
          go_wp2_with fail
          go_region
          all_goals
            go_wp2
            go_ret
            rw [HF.out]
            exact ⟨rfl, HW.out.drew⟩
      · have HF : Hid (eqL xs ys = true) := eqL_all (by rw [← HN.out, ← HM.out]) (fun j hj => heq j (by have := HN.out; omega))
        clear heq hbel
        go_wp2
        go_ret
        rw [HF.out]
        exact ⟨rfl, HW.out⟩
  · have HF : Hid (eqL xs ys = false) := eqL_len (by rw [← hn, ← hmm]; exact hnm)
    have hq : ((n : Int) != (m : Int)) = true := by rw [bne_iff_ne]; omega
    clear ha hb hn hmm hnm
    go_enter Try.func53, Try.ntmps53
    go_wp2
    go_ret
    rw [HF.out]
    exact ⟨rfl, Below.refl _ _⟩

end Go.Proofs.Ytamaanbnlnpjcaa
