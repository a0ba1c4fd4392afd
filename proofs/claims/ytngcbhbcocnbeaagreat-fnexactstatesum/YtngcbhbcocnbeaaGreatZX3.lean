/-
  What putSum_both needs, part 3.
-/
import Derived.Test.YtngcbhbcocnbeaaGreatZX2
import Derived.Test.YtngcbhbcocnbeaaGreatRows
import Derived.WalkKit
import Derived.WalkSpells
import Derived.WalkLawsBesides
import Derived.Deep.QuietTactic
import Derived.BigQuiet
import Derived.Deep.AppendLies
import Derived.Deep.AppendSrc
import Derived.Lib.AppendZeros
import Derived.Deep.RegionHeld3
import Derived.Deep.RegionWith
namespace Go.Proofs.YtngcbhbcocnbeaaGreat
open Go.ChangeShapes Go.WideShapes Go.ChangeAt Go.RowKit Go.Joins Go.Deep

/-- How many bytes the replies have. -/
def sumS : List Ss → Nat
  | [] => 0
  | q :: t => q.t.size + sumS t
theorem sumS_app : ∀ xs ys : List Ss, sumS (xs ++ ys) = sumS xs + sumS ys
  | [], ys => by simp [sumS]
  | q :: t, ys => by simp [sumS, sumS_app t ys]; omega
theorem sumS_next {bs : List Ss} {k : Nat} {q : Ss} (h : bs[k]? = some q) : sumS (bs.take (k + 1)) = sumS (bs.take k) + q.t.size := by
  rw [List.take_add_one, h, sumS_app]; simp [sumS]
theorem sumS_le (bs : List Ss) (k : Nat) : sumS (bs.take k) ≤ sumS bs := by
  conv => rhs; rw [← List.take_append_drop k bs, sumS_app]
  omega


set_option maxHeartbeats 400000 in
theorem szSession_any (q : Ss) (l : Int) (h0 : 0 ≤ l) (h1 : l ≤ 1048576) (h9 : q.t.size ≤ 9223372036854775807) (w : World) :
    Calls Tryz.prog 80 #[.agg #[.int .i64 q.i, .int .i64 q.l, .string q.t, .int .i64 q.u], .int .i64 l] w fun e w' => e = .returned (.int .i64 (szO l q.t.size)) ∧ Below w.heap.size w w' := by
  by_cases hd : l - (q.t.size : Int) < 0
  · rw [szO_yes hd]
    go_enter Tryz.func80, Tryz.ntmps80
    go_wp2
    go_ret
    exact ⟨rfl, (Below.refl _ _).alloc (Nat.le_refl _) _⟩
  · rw [szO_no hd]
    have hd2 : decide (l - (q.t.size : Int) < 0) = false := decide_eq_false hd
    go_enter Tryz.func80, Tryz.ntmps80
    go_wp2
    go_ret
    exact ⟨rfl, (Below.refl _ _).alloc (Nat.le_refl _) _⟩

set_option maxHeartbeats 1000000 in
theorem szSessionS_any (a : Option Addr) (n cap : Nat) (bs : List Ss) (l : Int) (h0 : 0 ≤ l) (h1 : l ≤ 1048576) (w : World) (hn : n = bs.length) (hB : RowG KSs w a bs) (h9 : n ≤ 9223372036854775807) (hst : ∀ q ∈ bs, q.t.size ≤ 9223372036854775807) :
    Calls Tryz.prog 51 #[.slice a n cap, .int .i64 l] w fun e w' => e = .returned (.int .i64 (szB n (sumS bs) l)) ∧ Below w.heap.size w w' := by
  have HB := hidP hB
  have HN := hidP hn
  have HST := hidP hst
  clear hB hn hst
  by_cases hnl : l < (n : Int)
  · rw [szB_no (by omega)]
    have d1 : decide (l - (n : Int) < 0) = true := decide_eq_true (by omega)
    go_enter Tryz.func51, Tryz.ntmps51
    go_wp2
    go_ret
    exact ⟨rfl, Below.refl _ _⟩
  · have d1 : decide (l - (n : Int) < 0) = false := decide_eq_false (by omega)
    have d2 : ¬ (l - (n : Int) < 0) := by omega
    go_enter Tryz.func51, Tryz.ntmps51
    go_wp2_with fail
    go_loopw [1, 5] (fun t1 t5 wr => ∃ (k : Nat) (z : Int), k ≤ n ∧ t5 = .int .i64 k ∧ t1 = .int .i64 z ∧ z = l - n - sumS (bs.take k) ∧ 0 ≤ z ∧ Below w.heap.size w wr) (fun _ t5 _ => n - (intOf t5).toNat)
    case atStart => exact ⟨0, l - n, Nat.zero_le _, rfl, rfl, by simp [sumS], by omega, Below.refl _ _⟩
    case round =>
      obtain ⟨k, z, hk, rfl, rfl, hz, hz0, hbel⟩ := hrel
      by_cases hlt : k < n
      · obtain ⟨p, o, q, rfl, hp, hq, c0, c1, c2, c3⟩ := rowSs HB.out k (by rw [← HN.out]; exact hlt)
        have d0 := (hbel.cell hp).trans c0
        have d1 := (hbel.cell hp).trans c1
        have d2 := (hbel.cell hp).trans c2
        have d3 := (hbel.cell hp).trans c3
        have HBel := hidP hbel
        have HNx := hidP (sumS_next hq)
        have HLe := hidP (sumS_le bs (k + 1))
        have hz1 : z ≤ 1048576 := by omega
        have HZ := hidP hz
        have HS := hidP (szSession_any q z hz0 hz1 (HST.out q (List.mem_of_getElem? hq)))
        clear c0 c1 c2 c3 hq hbel hz
        by_cases hd : z - (q.t.size : Int) < 0
        · rw [szO_yes hd] at HS
          have HF : Hid (¬ ((n : Int) + (sumS bs : Int) ≤ l)) := hidP (by have := HZ.out; have := HNx.out; have := HLe.out; omega)
          go_wp2_with fail
          refine (HS.out _).mono ?_
          rintro e w2 ⟨rfl, hb2⟩
          have HB2 := hidP (HBel.out.trans (hb2.mono HBel.out.size))
          clear hb2 HBel d0 d1 d2 d3
          go_wp2_with fail
          go_ret
          exact ⟨ret_i (szB_no (by have := HF.out; omega)).symm, HB2.out⟩
        · rw [szO_no hd] at HS
          have hd2 : decide (z - (q.t.size : Int) < 0) = false := decide_eq_false hd
          go_wp2_with fail
          refine (HS.out _).mono ?_
          rintro e w2 ⟨rfl, hb2⟩
          have HB2 := hidP (HBel.out.trans (hb2.mono HBel.out.size))
          clear hb2 HBel d0 d1 d2 d3
          go_wp2_with fail
          go_roundw
          case rel => exact ⟨k + 1, z - (q.t.size : Int), by omega, by go_num, rfl, by have := HZ.out; have := HNx.out; omega, by omega, HB2.out⟩
          case measure => simp [intOf]; omega
      · have hkn : k = n := by omega
        have HF : Hid ((n : Int) + (sumS bs : Int) ≤ l ∧ z = l - n - sumS bs) := by
          rw [List.take_of_length_le (by have := HN.out; omega)] at hz
          exact hidP ⟨by omega, hz⟩
        have HBel := hidP hbel
        clear hbel hz
        go_wp2_with fail
        go_ret
        exact ⟨ret_i (by rw [szB_yes HF.out.1, ← HF.out.2]), HBel.out⟩


/-- How much of a law's room a desk takes. -/
def totD (ls : List Ss) : Int := ls.length + sumS ls
theorem box2D (w : World) (t : TypeId) (u v : Value) : (w.alloc (.cells #[u, v] t)).cell? ⟨w.heap.size, 0, none⟩ = some u ∧ (w.alloc (.cells #[u, v] t)).cell? ⟨w.heap.size, 1, none⟩ = some v := ⟨by simp [go_sem], by simp [go_sem]⟩

set_option maxHeartbeats 1000000 in
theorem szDesk_at (a : Option Addr) (n c : Nat) (N : Int) (ls : List Ss) (l : Int) (h0 : 0 ≤ l) (h1 : l ≤ 1048576) (w : World) (hn : n = ls.length) (hP : RowG KSs w a ls) (h9 : n ≤ 9223372036854775807) (hst : ∀ q ∈ ls, q.t.size ≤ 9223372036854775807) :
    Calls Tryz.prog 18 #[.agg #[.slice a n c, .int .i64 N], .int .i64 l] w fun e w' => e = .returned (.int .i64 (szB ls.length (sumS ls) l)) ∧ Below w.heap.size w w' := by
  rw [← hn]
  have HS := hidP (fun W h => szSessionS_any a n c ls l h0 h1 W hn (hP.later h) h9 hst)
  clear hP hn hst
  by_cases ht : (n : Int) + (sumS ls : Int) ≤ l
  · rw [szB_yes ht] at HS
    rw [szB_yes ht]
    have hz2 : decide (l - (n : Int) - (sumS ls : Int) < 0) = false := decide_eq_false (by omega)
    generalize he : (l - (n : Int) - (sumS ls : Int)) = z at *
    have hz3 : ¬ z < 0 := by omega
    have HE := hidP he
    clear he
    go_enter Tryz.func18, Tryz.ntmps18
    go_wp2_with fail
    refine (HS.out _ (alloc_below w _)).mono ?_
    rintro e w2 ⟨rfl, hb2⟩
    have HB2 := hidP hb2
    clear hb2
    go_wp2_with fail
    go_ret
    exact ⟨ret_i (by have := HE.out; omega), (alloc_below w _).trans (HB2.out.mono (alloc_below w _).size)⟩
  · rw [szB_no ht] at HS
    rw [szB_no ht]
    go_enter Tryz.func18, Tryz.ntmps18
    go_wp2_with fail
    refine (HS.out _ (alloc_below w _)).mono ?_
    rintro e w2 ⟨rfl, hb2⟩
    have HB2 := hidP hb2
    clear hb2
    go_wp2_with fail
    go_ret
    exact ⟨rfl, (alloc_below w _).trans (HB2.out.mono (alloc_below w _).size)⟩

set_option maxHeartbeats 1000000 in
theorem toDesk_any (a : Option Addr) (n c : Nat) (N : Int) (ls : List Ss) (w : World) (hn : n = ls.length) (hP : RowG KSs w a ls) (hl : n ≤ 1048576) :
    Calls Tryz.prog 27 #[.agg #[.slice a n c, .int .i64 N]] w fun e w' => ∃ g, e = .returned (.agg #[.slice (some ⟨g, 0, none⟩) n n, .int .i64 N]) ∧ OwnG KSs 77 w' w.heap.size (.slice (some ⟨g, 0, none⟩) n n) ls ∧ Below w.heap.size w w' := by
  have HTP := hidP (fun W h => toSessionS_any a n c ls W hn (hP.later h) hl)
  clear hP hn
  go_enter Tryz.func27, Tryz.ntmps27
  go_wp2_with fail
  refine (HTP.out _ ?_).mono ?_
  · repeat (first | with_reducible exact Below.refl _ _ | (with_reducible refine Below.drew ?_) | (with_reducible refine Below.alloc ?_ ?_ _; rotate_left; (focus (first | omega | (simp; omega) | (simp; done)))) | (with_reducible refine Below.setCell ?_ ?_ _; rotate_left; (focus (first | omega | (simp; omega) | (simp; done)))))
  rintro e w1 ⟨g, rfl, og, hb1⟩
  have hz1 := hb1.size
  try simp at hz1
  have hgl := OwnG.lt og g rfl
  try simp at hgl
  have f10 : w.heap.size < w1.heap.size := by omega
  have f11 : w.heap.size + 1 < w1.heap.size := by omega
  have f12 : w.heap.size + 2 < w1.heap.size := by omega
  refine olds_k (w.heap.size + 3) hb1 ?_ ?_
  · first | omega | (simp; omega) | (simp; done)
  intro hc1 hf1
  have OG := hidP og
  clear og
  go_wp2_with fail
  refine bodyPost_ret (v := .agg #[.slice (some ⟨g, 0, none⟩) n n, .int .i64 N]) (by simp [results, Tryz.results27, go_sem, hc1]) rfl ⟨g, rfl, ?_, ?_⟩
  · have ne : ∀ x : Nat, x < w.heap.size + 3 → ∀ k, (Value.slice (some ⟨g, 0, none⟩) n n).ownBlock = some k → some x ≠ some k := fun x hx k hk e => by simp [Value.ownBlock] at hk e; omega
    refine OwnG.mono (B := w.heap.size + 3) ?_ (by omega)
    iterate 4 (with_reducible refine OwnG.grown ?_ (grown_cellG _ _ _ _) ?_; rotate_left; (focus (exact ne _ (by omega))))
    with_reducible exact OG.out.mono (by first | (simp; done) | (simp; omega))
  · repeat (first | with_reducible exact Below.refl _ _ | (with_reducible refine Below.drew ?_) | (with_reducible refine Below.alloc ?_ ?_ _; rotate_left; (focus (first | omega | (simp; omega) | (simp; done)))) | (with_reducible refine Below.setCell ?_ ?_ _; rotate_left; (focus (first | omega | (simp; omega) | (simp; done)))) | (with_reducible refine Below.trans ?_ (hb1.mono ?_); rotate_left; (focus (first | omega | (simp; omega) | (simp; done)))))

set_option maxHeartbeats 1000000 in
theorem eqDesk_same (a a' : Option Addr) (n c c' : Nat) (N : Int) (ls : List Ss) (w : World) (hn : n = ls.length) (hP : RowG KSs w a ls) (hP' : RowG KSs w a' ls) (hl : n ≤ 9000000000) :
    Calls Tryz.prog 42 #[.agg #[.slice a n c, .int .i64 N], .agg #[.slice a' n c', .int .i64 N]] w fun e w' => e = .returned (.bool true) ∧ Below w.heap.size w w' := by
  have HTP := hidP (fun W h => eqSessionS_same a a' n c c' ls W hn (hP.later h) (hP'.later h) hl)
  clear hP hP' hn
  go_enter Tryz.func42, Tryz.ntmps42
  go_wp2_with fail
  refine (HTP.out _ ?_).mono ?_
  · repeat (first | with_reducible exact Below.refl _ _ | (with_reducible refine Below.drew ?_) | (with_reducible refine Below.alloc ?_ ?_ _; rotate_left; (focus (first | omega | (simp; omega) | (simp; done)))) | (with_reducible refine Below.setCell ?_ ?_ _; rotate_left; (focus (first | omega | (simp; omega) | (simp; done)))))
  rintro e w1 ⟨rfl, hb1⟩
  have hz1 := hb1.size
  try simp at hz1
  have f10 : w.heap.size < w1.heap.size := by omega
  have f11 : w.heap.size + 1 < w1.heap.size := by omega
  refine olds_k (w.heap.size + 2) hb1 ?_ ?_
  · first | omega | (simp; omega) | (simp; done)
  intro hc1 hf1
  go_wp2_with fail
  go_ret
  refine ⟨rfl, ?_⟩
  repeat (first | with_reducible exact Below.refl _ _ | (with_reducible refine Below.drew ?_) | (with_reducible refine Below.alloc ?_ ?_ _; rotate_left; (focus (first | omega | (simp; omega) | (simp; done)))) | (with_reducible refine Below.setCell ?_ ?_ _; rotate_left; (focus (first | omega | (simp; omega) | (simp; done)))) | (with_reducible refine Below.trans ?_ (hb1.mono ?_); rotate_left; (focus (first | omega | (simp; omega) | (simp; done)))))

end Go.Proofs.YtngcbhbcocnbeaaGreat
namespace Go.Proofs.YtngcbhbcocnbeaaGreat
open Go.RowKit

def tmB (u : Int) : Bool := decide (0 ≤ u) && decide (u ≤ 1000000000)
def emB (t : ByteArray) : Bool := t.toList.isEmpty
/-- A session but for its Id. -/
def okSs (q : Ss) : Bool := ((decide (0 ≤ q.l) && decide (q.l ≤ 1000000)) && (decide ((q.t.size : Int) ≤ 200) && (decide (0 < q.l) || emB q.t))) && tmB q.u
/-- The sessions of a desk whose Next is N, behind one whose Id is p. -/
def sesF (N : Int) (p : Int) : List Ss → Bool
  | [] => true
  | q :: t => ((decide (p < q.i) && decide (q.i < N)) && okSs q) && sesF N q.i t
/-- DeskOk. -/
def dkB (ls : List Ss) (N : Int) : Bool := (decide ((ls.length : Int) ≤ 12) && (decide (1 ≤ N) && decide (N ≤ 1000000))) && sesF N 0 ls
/-- The Id ahead of place k, 0 ahead of the first. -/
def prvS (ls : List Ss) (k : Nat) : Int := match k with
  | 0 => 0
  | k + 1 => match ls[k]? with | some q => q.i | none => 0
theorem prvS_next {ls : List Ss} {k : Nat} {q : Ss} (h : ls[k]? = some q) : prvS ls (k + 1) = q.i := by simp [prvS, h]
theorem drop_at7 {α : Type} {ls : List α} {k : Nat} {q : α} (h : ls[k]? = some q) : ls.drop k = q :: ls.drop (k + 1) := by
  obtain ⟨hk, rfl⟩ := List.getElem?_eq_some_iff.1 h
  exact List.drop_eq_getElem_cons hk
theorem ret_b7 {a b : Bool} (h : a = b) : Ending.returned (.bool a) = .returned (.bool b) := by rw [h]

end Go.Proofs.YtngcbhbcocnbeaaGreat
namespace Go.Proofs.YtngcbhbcocnbeaaGreat
open Go.RowKit

theorem hid' {p : Prop} (h : p) : Hid p := h
/-- The bytes zs lie in memory from a on. -/
def Byt (w : World) (a : Option Addr) (zs : List Int) : Prop := ∀ j, j < zs.length → ∃ p o z, a = some ⟨p, o, none⟩ ∧ p < w.heap.size ∧ w.cell? ⟨p, o + j, none⟩ = some (.int .u8 z) ∧ zs[j]? = some z
/-- Each is a byte. -/
def Oct (zs : List Int) : Prop := ∀ z ∈ zs, 0 ≤ z ∧ z ≤ 255
/-- A row of bytes that the call itself has made. -/
def Own (w : World) (B : Nat) (v : Value) (zs : List Int) : Prop := w.ownsRow B 5 1 v zs.length (zs.map (Value.int .u8))

theorem Byt.later {w w' : World} {a : Option Addr} {zs : List Int} (h : Byt w a zs) (hb : Below w.heap.size w w') : Byt w' a zs := fun j hj => by
  obtain ⟨p, o, z, ha, hp, hc, hz⟩ := h j hj
  exact ⟨p, o, z, ha, Nat.lt_of_lt_of_le hp hb.size, (hb.cell hp).trans hc, hz⟩
theorem Byt.nil (w : World) (a : Option Addr) : Byt w a [] := fun j hj => absurd hj (Nat.not_lt_zero j)
theorem Own.byt {w : World} {B g n cap : Nat} {zs : List Int} (h : Own w B (.slice (some ⟨g, 0, none⟩) n cap) zs) (hn : n = zs.length) : Byt w (some ⟨g, 0, none⟩) zs := fun j hj => by
  subst hn
  have hc := World.ownsRow.cellAt h j (by omega)
  have e : zs[j]? = some zs[j] := List.getElem?_eq_getElem hj
  have hlt := (World.ownsRow.lt h) g rfl
  refine ⟨g, 0, zs[j], rfl, hlt.2, ?_, e⟩
  rw [Nat.zero_add, hc, List.getElem?_map, e]; rfl
theorem Own.form {w : World} {B : Nat} {v : Value} {zs : List Int} (h : Own w B v zs) : ∃ a cap, v = .slice a zs.length cap ∧ Byt w a zs := by
  rcases h.2 with ⟨hv, h0⟩ | ⟨g, cap, cur, hv, hb, hg, h1, h2, h3, h4⟩
  · have : zs = [] := List.length_eq_zero_iff.1 h0
    subst this
    exact ⟨none, 0, hv, Byt.nil _ _⟩
  · have h' : Own w B (.slice (some ⟨g, 0, none⟩) zs.length cap) zs := by rw [← hv]; exact h
    exact ⟨some ⟨g, 0, none⟩, cap, hv, h'.byt rfl⟩
theorem Own.bytA {w : World} {B n cap : Nat} {a : Option Addr} {zs : List Int} (h : Own w B (.slice a n cap) zs) : Byt w a zs := by
  obtain ⟨a', c', e, hb⟩ := h.form
  simp at e
  rw [e.1]; exact hb
/-- A row that another one's turning does not touch. -/
theorem Own.kept {w w' : World} {B : Nat} {v u : Value} {zs : List Int} (h : Own w B v zs) (hg : w.grownBy w' u.ownBlock) (hne : ∀ k, v.ownBlock = some k → u.ownBlock = some k → False) : Own w' B v zs := by
  refine World.ownsRow.kept h hg ?_
  cases hv : v.ownBlock with
  | none => exact Or.inl rfl
  | some k => exact Or.inr (fun e => hne k hv e.symm)
theorem Own.lt {w : World} {B : Nat} {v : Value} {zs : List Int} (h : Own w B v zs) : ∀ k, v.ownBlock = some k → B ≤ k ∧ k < w.heap.size := World.ownsRow.lt h
theorem Own.alloc {w : World} {B : Nat} {v : Value} {zs : List Int} (h : Own w B v zs) (o : Obj) : Own (w.alloc o) B v zs := World.ownsRow.alloc h o
theorem Own.mono {w : World} {B B' : Nat} {v : Value} {zs : List Int} (h : Own w B v zs) (hb : B' ≤ B) : Own w B' v zs := by
  refine ⟨h.1, ?_⟩
  rcases h.2 with h1 | ⟨g, cap, cur, hv, hg, hr⟩
  · exact Or.inl h1
  · exact Or.inr ⟨g, cap, cur, hv, Nat.le_trans hb hg, hr⟩
theorem Own.later {w w' : World} {B : Nat} {v : Value} {zs : List Int} (h : Own w B v zs) (hb : Below w.heap.size w w') : Own w' B v zs := by
  refine ⟨h.1, ?_⟩
  rcases h.2 with h1 | ⟨g, cap, cur, hv, hg, hr, hr'⟩
  · exact Or.inl h1
  · refine Or.inr ⟨g, cap, cur, hv, hg, (hb.block g ?_).trans hr, hr'⟩
    rcases Nat.lt_or_ge g w.heap.size with hlt | hge
    · exact hlt
    · rw [Array.getElem?_eq_none hge] at hr; cases hr

theorem Tryz.infoU8 : (Tryz.prog.info? 5).map (fun i => (i.zero, i.size, i.bytes)) = some (some (.int .u8 0), 1, 1) := by kernel_rfl

/-- Are two rows alike? -/
def eqL (xs ys : List Int) : Bool := decide (xs = ys)
theorem eqL_same (xs : List Int) : eqL xs xs = true := by simp [eqL]
theorem eqL_len {xs ys : List Int} (h : xs.length ≠ ys.length) : eqL xs ys = false := by
  unfold eqL; rw [decide_eq_false_iff_not]; intro e; exact h (by rw [e])
theorem eqL_at {xs ys : List Int} (k : Nat) {x y : Int} (hx : xs[k]? = some x) (hy : ys[k]? = some y) (h : x ≠ y) : eqL xs ys = false := by
  unfold eqL; rw [decide_eq_false_iff_not]; intro e; rw [e] at hx; rw [hx] at hy; exact h (by simpa using hy)
theorem eqL_all {xs ys : List Int} (hl : xs.length = ys.length) (h : ∀ j, j < xs.length → xs[j]? = ys[j]?) : eqL xs ys = true := by
  unfold eqL; rw [decide_eq_true_eq]
  apply List.ext_getElem?
  intro j
  by_cases hj : j < xs.length
  · exact h j hj
  · rw [List.getElem?_eq_none (by omega), List.getElem?_eq_none (by omega)]

set_option maxRecDepth 10000 in
set_option maxHeartbeats 1000000 in
theorem eqByteS_any (a b : Option Addr) (c d : Nat) (xs ys : List Int) (w : World) (ha : Byt w a xs) (hb : Byt w b ys) (hl : xs.length ≤ 9000000000) (hm : ys.length ≤ 9000000000) :
    Calls Tryz.prog 9 #[.slice a xs.length c, .slice b ys.length d] w fun e w' => e = .returned (.bool (eqL xs ys)) ∧ Below w.heap.size w w' := by
  obtain ⟨n, hn⟩ : ∃ n, n = xs.length := ⟨_, rfl⟩
  obtain ⟨m, hmm⟩ : ∃ m, m = ys.length := ⟨_, rfl⟩
  rw [← hn, ← hmm]
  rw [← hn] at hl
  rw [← hmm] at hm
  by_cases hnm : n = m
  · subst hnm
    have HA : Hid (Byt w a xs) := ha
    have HB : Hid (Byt w b ys) := hb
    have HN : Hid (n = xs.length) := hn
    have HM : Hid (n = ys.length) := hmm
    clear ha hb hn hmm
    go_enter Tryz.func9, Tryz.ntmps9
    go_wp2
    go_loopw [5] (fun t5 wr => ∃ k : Nat, k ≤ n ∧ t5 = .int .i64 k ∧ (∀ j, j < k → xs[j]? = ys[j]?) ∧ Below w.heap.size w wr) (fun t5 _ => n - (intOf t5).toNat)
    case atStart => exact ⟨0, Nat.zero_le _, rfl, fun j hj => absurd hj (Nat.not_lt_zero j), Below.refl _ _⟩
    case round =>
      obtain ⟨k, hk, rfl, heq, hbel⟩ := hrel
      have HE : Hid (∀ j, j < k → xs[j]? = ys[j]?) := heq
      have HW : Hid (Below w.heap.size w wr) := hbel
      by_cases hlt : k < n
      · obtain ⟨p, o, x, rfl, hp, hc, hx⟩ := HA.out k (by rw [← HN.out]; exact hlt)
        obtain ⟨q, r, y, rfl, hq, hd, hy⟩ := HB.out k (by rw [← HM.out]; exact hlt)
        have c1 : wr.cell? ⟨p, o + k, none⟩ = some (.int .u8 x) := (hbel.cell hp).trans hc
        have c2 : wr.cell? ⟨q, r + k, none⟩ = some (.int .u8 y) := (hbel.cell hq).trans hd
        have HX : Hid (xs[k]? = some x) := hx
        have HY : Hid (ys[k]? = some y) := hy
        clear hc hd heq hbel hx hy
        by_cases hxy : x = y
        · subst hxy
          have hb1 : (x != x) = false := by simp
          go_wp2_with fail
          go_region
          all_goals
            go_wp2
            go_roundw
            case rel =>
              refine ⟨k + 1, by omega, by go_num, fun j hj => ?_, HW.out.drew⟩
              by_cases hjk : j = k
              · subst hjk; rw [HX.out, HY.out]
              · exact HE.out j (by omega)
            case measure => simp [intOf]; omega
        · have hb1 : (x != y) = true := by simp [hxy]
          have HF : Hid (eqL xs ys = false) := eqL_at k HX.out HY.out hxy
          clear hxy
          go_wp2_with fail
          go_region
          all_goals
            go_wp2
            go_ret
            rw [HF.out]
            exact ⟨rfl, HW.out.drew⟩
      · have HF : Hid (eqL xs ys = true) := eqL_all (by rw [← HN.out, ← HM.out]) (fun j hj => heq j (by have := HN.out; omega))
        clear heq hbel
        go_wp2
        go_ret
        rw [HF.out]
        exact ⟨rfl, HW.out⟩
  · have HF : Hid (eqL xs ys = false) := eqL_len (by rw [← hn, ← hmm]; exact hnm)
    have hq : ((n : Int) != (m : Int)) = true := by rw [bne_iff_ne]; omega
    clear ha hb hn hmm hnm
    go_enter Tryz.func9, Tryz.ntmps9
    go_wp2
    go_ret
    rw [HF.out]
    exact ⟨rfl, Below.refl _ _⟩

end Go.Proofs.YtngcbhbcocnbeaaGreat
namespace Go.Proofs.YtngcbhbcocnbeaaGreat
open Go.RowKit

/-- The bytes of a number without a sign: seven bits each, the lowest first, 128 more where more follow. -/
def numB (x : Nat) : List Int := if x < 128 then [(x : Int)] else ((x % 128 + 128 : Nat) : Int) :: numB (x / 128)
termination_by x
decreasing_by omega

theorem numB_lo {x : Nat} (h : x < 128) : numB x = [(x : Int)] := by rw [numB, if_pos h]
theorem numB_hi {x : Nat} (h : ¬ x < 128) : numB x = ((x % 128 + 128 : Nat) : Int) :: numB (x / 128) := by rw [numB, if_neg h]
theorem numB_len : ∀ (k x : Nat), x < 128 ^ (k + 1) → (numB x).length ≤ k + 1
  | 0, x, h => by rw [numB_lo (by simpa using h)]; simp
  | k + 1, x, h => by
      by_cases hx : x < 128
      · rw [numB_lo hx]; simp
      · rw [numB_hi hx]
        have := numB_len k (x / 128) (by rw [Nat.div_lt_iff_lt_mul (by omega)]; rw [Nat.pow_succ] at h; exact h)
        simp only [List.length_cons]; omega
theorem numB_ten (x : Nat) (h : x < 18446744073709551616) : (numB x).length ≤ 10 := numB_len 9 x (by omega)
theorem numB_pos (x : Nat) : 0 < (numB x).length := by rw [numB]; split <;> simp
theorem numB_oct (x : Nat) : Oct (numB x) := by
  intro z hz
  rw [numB] at hz
  split at hz
  · rw [List.mem_singleton] at hz; omega
  · rcases List.mem_cons.1 hz with rfl | hz
    · omega
    · exact numB_oct (x / 128) z hz
termination_by x
decreasing_by omega

/-- A number of the kind int, without its sign. -/
def u64 (n : Int) : Nat := (IntKind.u64.wrap n).toNat
theorem u64_lt (n : Int) : u64 n < 18446744073709551616 := by unfold u64; rw [IntKind.wrap_u64]; omega
theorem numB_loI {x : Int} (h0 : 0 ≤ x) (h : x < 128) : numB x.toNat = [x] := by
  rw [numB_lo (by omega), Int.toNat_of_nonneg h0]
theorem numB_hiI {x : Int} (h : ¬ x < 128) : numB x.toNat = (x % 128 + 128) :: numB (x / 128).toNat := by
  obtain ⟨k, rfl⟩ := Int.eq_ofNat_of_zero_le (show 0 ≤ x by omega)
  have e1 : ((k : Int) / 128).toNat = k / 128 := by omega
  have e2 : ((k : Int)).toNat = k := by omega
  rw [e2, e1, numB_hi (by omega)]
  congr 1

theorem or128 (X : Int) (h0 : 0 ≤ X) : bits .or .u8 (X % 256) 128 = X % 128 + 128 := by
  obtain ⟨x, rfl⟩ := Int.eq_ofNat_of_zero_le h0
  have e : ((x : Int) % 256) = ((x % 256 : Nat) : Int) := by omega
  rw [e]
  show IntKind.u8.wrap ((BitVec.ofInt 8 ((x % 256 : Nat) : Int) ||| BitVec.ofInt 8 128).toNat : Int) = _
  have h : ∀ y : Nat, y < 256 → ((BitVec.ofInt 8 (y : Int) ||| BitVec.ofInt 8 128).toNat) = y % 128 + 128 := by decide +kernel
  rw [h _ (by omega), IntKind.wrap_u8]
  omega

theorem own_snoc {w : World} {B : Nat} {v : Value} {ys : List Int} {z : Int} {n : Nat} (hn : n = ys.length + 1)
    (h : w.ownsRow B 5 1 v n (ys.map (Value.int .u8) ++ [Value.int .u8 z])) : Own w B v (ys ++ [z]) := by
  unfold Own; subst hn; simpa using h
theorem one_one (z : Int) : ∀ u ∈ [Value.int .u8 z], u.oneCell' = true := by
  intro u hu; rw [List.mem_singleton] at hu; subst hu; rfl
/-- What an append to a row of the call's own leaves below. -/
theorem below_app {w w1 w2 : World} {B : Nat} {v : Value} {zs : List Int} (hb : Below B w w1) (ho : Own w1 B v zs) (hB : B ≤ w1.heap.size) (hg : w1.grownBy w2 v.ownBlock) : Below B w w2 :=
  hb.grown hg hB (fun k hk => (World.ownsRow.lt ho k hk).1)

set_option maxRecDepth 10000 in
set_option maxHeartbeats 2000000 in
theorem sPutNum_any (n : Int) (w : World) :
    Calls Tryz.prog 22 #[.int .i64 n] w fun e w' => ∃ a cap, e = .returned (.slice a (numB (u64 n)).length cap) ∧ Own w' w.heap.size (.slice a (numB (u64 n)).length cap) (numB (u64 n)) ∧ Below w.heap.size w w' := by
  obtain ⟨i0, hi, hz0, hz1, hz2⟩ := info_parts Tryz.infoU8
  have HT : Hid ((numB (u64 n)).length ≤ 10) := numB_ten _ (u64_lt n)
  have ub : 0 ≤ IntKind.u64.wrap n ∧ IntKind.u64.wrap n < 18446744073709551616 := by rw [IntKind.wrap_u64]; omega
  unfold u64 at HT ⊢
  have HO : Hid (Own (w.alloc (.cells #[] 5)) w.heap.size (.slice (some ⟨w.heap.size, 0, none⟩) 0 0) []) := World.ownsRow_lit w #[] 0 (Nat.le_refl _) (by unfold maxLen; omega) (by simp)
  generalize hX : numB (IntKind.u64.wrap n).toNat = Z at HT ⊢
  have HX : Hid (numB (IntKind.u64.wrap n).toNat = Z) := hX
  clear hX
  go_enter Tryz.func22, Tryz.ntmps22
  go_wp2
  go_loopw [3, 4] (fun t3 t4 wr => ∃ (x : Int) (ys : List Int), t3 = .int .u64 x ∧ 0 ≤ x ∧ x < 18446744073709551616 ∧ Own wr w.heap.size t4 ys ∧ ys ++ numB x.toNat = Z ∧ Below w.heap.size w wr) (fun t3 _ _ => (intOf t3).toNat)
  case atStart => exact ⟨_, [], rfl, ub.1, ub.2, HO.out, HX.out, (Below.refl _ w).alloc (Nat.le_refl _) _⟩
  case round =>
    obtain ⟨x, ys, rfl, hx0, hx1, hown, heq, hbel⟩ := hrel
    have HE : Hid (ys ++ numB x.toNat = Z) := heq
    have hyl : ys.length ≤ 10 := by have := HT.out; rw [← heq, List.length_append] at this; omega
    have hwz : w.heap.size ≤ wr.heap.size := hbel.size
    have HB : Hid (Below w.heap.size w wr) := hbel
    have HOw : Hid (Own wr w.heap.size _ ys) := hown
    clear heq hbel hown
    by_cases hx : x < 128
    · have HN : Hid (ys ++ [x] = Z) := by unfold Hid; rw [← HE.out, numB_loI hx0 hx]
      go_wp2_with (at_builtin; refine wpList_append_lies _ rfl (.tmp 19) (.tmp 22) 35 rfl w.heap.size 5 i0 (.int .u8 0) 1 1 Tryz.underlying35 hi hz0 hz1 hz2 rfl (by decide) _ _ _ rfl (HOw.out.alloc _) ⟨wr.heap.size, 0, none⟩ 1 1 [.int .u8 (x)] rfl rfl (cell_one_new _ _ _) (one_one _) (by decide) (by unfold maxLen; omega) (by omega) (by simp; omega) (wr.heap.size + 1) (by simp) ?_; intro g cap w1 hown hgrow hat hgl)
      have O1 := own_snoc rfl hown
      have B1 : Below w.heap.size w w1 := below_app (HB.out.alloc hwz _) (HOw.out.alloc _) (by simp; omega) hgrow
      have HO1 : Hid (Own w1 w.heap.size _ _) := O1
      have HB1 : Hid (Below w.heap.size w w1) := B1
      clear hown hgrow hat O1 B1
      go_wp2
      go_ret
      refine ⟨some ⟨g, 0, none⟩, cap, ?_, ?_, HB1.out⟩
      · rw [← HN.out, List.length_append]; rfl
      · rw [← HN.out, List.length_append]; exact HO1.out
    · have HN : Hid ((ys ++ [x % 128 + 128]) ++ numB (x / 128).toNat = Z) := by unfold Hid; rw [← HE.out, numB_hiI hx, List.append_assoc]; rfl
      go_wp2_with (at_builtin; refine wpList_append_lies _ rfl (.tmp 10) (.tmp 15) 35 rfl w.heap.size 5 i0 (.int .u8 0) 1 1 Tryz.underlying35 hi hz0 hz1 hz2 rfl (by decide) _ _ _ rfl (HOw.out.alloc _) ⟨wr.heap.size, 0, none⟩ 1 1 [.int .u8 (x % 128 + 128)] rfl rfl (cell_one_new _ _ _) (one_one _) (by decide) (by unfold maxLen; omega) (by omega) (by simp; omega) (wr.heap.size + 1) (by simp) ?_; intro g cap w1 hown hgrow hat hgl)
      have O1 := own_snoc rfl hown
      have B1 : Below w.heap.size w w1 := below_app (HB.out.alloc hwz _) (HOw.out.alloc _) (by simp; omega) hgrow
      have HO1 : Hid (Own w1 w.heap.size _ _) := O1
      have HB1 : Hid (Below w.heap.size w w1) := B1
      clear hown hgrow hat O1 B1
      go_wp2
      go_roundw
      case rel => exact ⟨x / 128, _, rfl, by omega, by omega, HO1.out, HN.out, HB1.out⟩
      case measure => simp [intOf]; omega

end Go.Proofs.YtngcbhbcocnbeaaGreat
namespace Go.Proofs.YtngcbhbcocnbeaaGreat
open Go.RowKit

theorem map_len (zs : List Int) : (zs.map (Value.int .u8)).length = zs.length := List.length_map _

theorem app_run (w : World) (B g n cap : Nat) (zs ns : List Int) (tx ty : TypeId) (x : Value) (hn : n = zs.length) (hown : Own w B (.slice (some ⟨g, 0, none⟩) n cap) zs)
    (hs : Src Tryz.prog 1 tx x ns.length (ns.map (Value.int .u8)) w) (hl : n + ns.length ≤ 1000000000) (hB : B ≤ w.heap.size) :
    ∃ h c w', (Builtin.append_ #[35, tx] ty #[.slice (some ⟨g, 0, none⟩) n cap, x]).run Tryz.prog w = .ok (.slice (some ⟨h, 0, none⟩) (n + ns.length) c) w' ∧
      Own w' B (.slice (some ⟨h, 0, none⟩) (n + ns.length) c) (zs ++ ns) ∧ w.grownBy w' (some g) ∧ (h = g ∨ h = w.heap.size) := by
  obtain ⟨i, hi, hz0, hz1, hz2⟩ := info_parts Tryz.infoU8
  have ht := Tryz.underlying35
  subst hn
  have hs' : Src Tryz.prog i.size tx x ns.length (ns.map (Value.int .u8)) w := by rw [hz1]; exact hs
  have hlen : ((zs ++ ns).map (Value.int .u8)).length = zs.length + ns.length := by simp
  rcases hown.2 with ⟨hv, _⟩ | ⟨g', cap', cur, hv, hbg, hg, hnc, hcm, hcs, htake⟩
  · simp at hv
  simp at hv
  obtain ⟨rfl, rfl⟩ := hv
  rw [Nat.mul_one] at hcs htake
  by_cases hroom : zs.length + ns.length ≤ cap
  · have hst := run_storeCells_at Tryz.prog g zs.length 5 (ns.map (Value.int .u8)) 0 cur w hg (by simp; omega) hs.one
    simp only [Nat.add_zero] at hst
    have hr : (Builtin.append_ #[35, tx] ty #[.slice (some ⟨g, 0, none⟩) zs.length cap, x]).run Tryz.prog w = .ok (.slice (some ⟨g, 0, none⟩) (zs.length + ns.length) cap) (w.setRow g (cur.toList.take zs.length ++ ns.map (Value.int .u8) ++ cur.toList.drop (zs.length + (ns.map (Value.int .u8)).length)).toArray) := by
      rcases hs.kind with ⟨e', hk⟩ | hk <;> simp [Builtin.append_, run_underlying ht, run_underlying hk, sizeOf, typeInfo, hi, hz1, hs.len, hroom, hs.cells, Addr.add_lit, hst]
    refine ⟨g, cap, _, hr, ⟨by simp, .inr ⟨g, cap, _, by simp, hbg, setRow_heap w g cur _ 5 _ hg, by simpa using hroom, hcm, ?_, ?_⟩⟩, ⟨rfl, rfl, rfl, by simp, fun k _ hk => setRow_other w g k _ (fun e => hk (by rw [e]))⟩, Or.inl rfl⟩
    · simp only [List.size_toArray, List.length_append, List.length_take, List.length_drop, Array.length_toList, map_len]
      omega
    · rw [htake, List.map_append, Nat.mul_one, List.length_append, ← map_len zs, ← map_len ns, ← List.length_append]
      exact List.take_left
  · have holds := hown.cells (g := g) rfl
    have hold : (Builtin.firstCells i.size zs.length (.slice (some ⟨g, 0, none⟩) zs.length cap)).run Tryz.prog w.drew = .ok (zs.map (Value.int .u8)).toArray w.drew := by
      rw [hz1]; exact run_firstCells_some w.drew 1 zs.length ⟨g, 0, none⟩ zs.length cap _ (by simp) (by simpa using holds)
    have hr := run_append_grow_src (P := Tryz.prog) w 35 tx ty 5 i (.int .u8 0) ht hi hz0 (some ⟨g, 0, none⟩) zs.length cap _ hold x ns.length _ hs' (by omega) (by omega) (growslice_fits (by omega) (by rw [hz2]; omega))
    have hge := grownCap_ge w (zs.length + ns.length) cap 5
    have hcm' := grownCap_le_maxLen w (zs.length + ns.length) cap 5 (by unfold maxLen; omega)
    refine ⟨w.heap.size, _, _, hr, ⟨by simp, .inr ⟨w.heap.size, _, _, by simp, hB, heap_alloc_new w.drew _, by simpa using hge, hcm', ?_, ?_⟩⟩, ⟨rfl, rfl, rfl, by simp, fun k hk _ => Below.heap_alloc w.drew _ k hk⟩, Or.inr rfl⟩
    · simp [size_zeroCells, Value.cells]; omega
    · have e2 : zs.length + ns.length = (zs.map (Value.int .u8) ++ ns.map (Value.int .u8)).length := by simp
      rw [Array.toList_append, List.map_append, Nat.mul_one, List.length_append, e2]
      exact List.take_left

theorem wp_app {o : Oper} {a : Act} {K : Act → World → Prop} {Q : Exit → Act → World → Prop} (w : World) (s x : Operand) (tx : TypeId)
    (ho : o.op = .call { callee := .builtin .append, args := #[s, x], argTypes := #[35, tx] })
    (B g n cap : Nat) (zs ns : List Int) (v xv : Value) (hsv : a.eval s = v) (hv : v = .slice (some ⟨g, 0, none⟩) n cap) (hn : n = zs.length) (hown : Own w B (.slice (some ⟨g, 0, none⟩) n cap) zs)
    (hx : a.eval x = xv) (hs : Src Tryz.prog 1 tx xv ns.length (ns.map (Value.int .u8)) w) (hl : n + ns.length ≤ 1000000000) (hB : B ≤ w.heap.size)
    (h : ∀ h c w', Own w' B (.slice (some ⟨h, 0, none⟩) (n + ns.length) c) (zs ++ ns) → w.grownBy w' (some g) → (h = g ∨ h = w.heap.size) → K (a.put o.dst (.slice (some ⟨h, 0, none⟩) (n + ns.length) c)) w') : o.wp Tryz.prog a w K Q := by
  obtain ⟨b, c, w', hr, h2, h3, h4⟩ := app_run w B g n cap zs ns tx o.type xv hn hown hs hl hB
  subst hv
  unfold Oper.wp execOp
  simp only [ho, resolve, invoke, builtin, Sem.run_bind, Sem.run_pure, Result.andThen_ok, List.map_toArray, List.map_cons, List.map_nil, hsv, hx, hr]
  exact h b c w' h2 h3 h4

theorem wpList_app {ops : Array Oper} {rest : List Oper} {o : Oper} {a : Act} {Q : Exit → Act → World → Prop} (w : World) (hgd : o.guard = none) (s x : Operand) (tx : TypeId)
    (ho : o.op = .call { callee := .builtin .append, args := #[s, x], argTypes := #[35, tx] })
    (B g n cap : Nat) (zs ns : List Int) (v xv : Value) (hsv : a.eval s = v) (hv : v = .slice (some ⟨g, 0, none⟩) n cap) (hn : n = zs.length) (hown : Own w B (.slice (some ⟨g, 0, none⟩) n cap) zs)
    (hx : a.eval x = xv) (hs : Src Tryz.prog 1 tx xv ns.length (ns.map (Value.int .u8)) w) (hl : n + ns.length ≤ 1000000000) (hB : B ≤ w.heap.size)
    (h : ∀ h c w', Own w' B (.slice (some ⟨h, 0, none⟩) (n + ns.length) c) (zs ++ ns) → w.grownBy w' (some g) → (h = g ∨ h = w.heap.size) → wpList Tryz.prog ops Q rest (a.put o.dst (.slice (some ⟨h, 0, none⟩) (n + ns.length) c)) w') : wpList Tryz.prog ops Q (o :: rest) a w :=
  wpList_plain hgd fun _ hK => wp_app w s x tx ho B g n cap zs ns v xv hsv hv hn hown hx hs hl hB fun b c w' h2 h3 h4 => hK _ _ (h b c w' h2 h3 h4)

theorem step_app {ops : Array Oper} {o : Oper} {a : Act} {K : Act → World → Prop} {Q : Exit → Act → World → Prop} {E : Prop} (w : World) (hgd : o.guard = none) (s x : Operand) (tx : TypeId)
    (ho : o.op = .call { callee := .builtin .append, args := #[s, x], argTypes := #[35, tx] })
    (B g n cap : Nat) (zs ns : List Int) (v xv : Value) (hsv : a.eval s = v) (hv : v = .slice (some ⟨g, 0, none⟩) n cap) (hn : n = zs.length) (hown : Own w B (.slice (some ⟨g, 0, none⟩) n cap) zs)
    (hx : a.eval x = xv) (hs : Src Tryz.prog 1 tx xv ns.length (ns.map (Value.int .u8)) w) (hl : n + ns.length ≤ 1000000000) (hB : B ≤ w.heap.size)
    (h : ∀ h c w', Own w' B (.slice (some ⟨h, 0, none⟩) (n + ns.length) c) (zs ++ ns) → w.grownBy w' (some g) → (h = g ∨ h = w.heap.size) → K (a.put o.dst (.slice (some ⟨h, 0, none⟩) (n + ns.length) c)) w') :
    if Region.wanted o (yielded ops a.tmps) = true then Oper.wp Tryz.prog o a w K Q else E := by
  have hw : Region.wanted o (yielded ops a.tmps) = true := by simp [Region.wanted, hgd]
  rw [if_pos hw]
  exact wp_app w s x tx ho B g n cap zs ns v xv hsv hv hn hown hx hs hl hB h

theorem Own.head {w : World} {B n cap : Nat} {a : Option Addr} {zs : List Int} (h : Own w B (.slice a n cap) zs) (hp : 0 < zs.length) : ∃ g, a = some ⟨g, 0, none⟩ ∧ B ≤ g ∧ g < w.heap.size := by
  obtain ⟨g, c, hv, h1, h2⟩ := World.ownsRow.form h hp
  simp at hv
  exact ⟨g, hv.1, h1, h2⟩
/-- Bytes that lie in memory as a source. -/
theorem src_byt {w : World} {a : Option Addr} {zs : List Int} (c : Nat) (h : Byt w a zs) (hc : a = none → c = 0) : Src Tryz.prog 1 35 (.slice a zs.length c) zs.length (zs.map (Value.int .u8)) w := by
  cases a with
  | none =>
    have : zs = [] := by
      cases zs with
      | nil => rfl
      | cons z t => obtain ⟨p, o, z', e, _⟩ := h 0 (by simp); cases e
    subst this
    rw [hc rfl]
    exact Src.ofNil (P := Tryz.prog) w Tryz.underlying35 0
  | some ad =>
    refine Src.ofSlice (P := Tryz.prog) w Tryz.underlying35 ad zs.length c _ (by simp) (fun j u hu => ?_) (ints_oneCell _ _)
    rw [List.getElem?_map] at hu
    obtain ⟨z, hz, rfl⟩ := Option.map_eq_some_iff.1 hu
    have hj : j < zs.length := by rcases Nat.lt_or_ge j zs.length with h1 | h1; exact h1; rw [List.getElem?_eq_none h1] at hz; cases hz
    obtain ⟨p, o, z', e, hp, hc', hz'⟩ := h j hj
    cases e
    rw [hz] at hz'
    cases hz'
    have ea : (⟨p, o, none⟩ : Addr).add j = ⟨p, o + j, none⟩ := by unfold Addr.add; split <;> simp_all
    rw [ea]; exact hc'
/-- A text's bytes. -/
def bys (s : ByteArray) : List Int := s.data.toList.map fun b => (b.toNat : Int)
theorem bys_len (s : ByteArray) : (bys s).length = s.size := by unfold bys; rw [List.length_map, Array.length_toList]; rfl
theorem bys_oct (s : ByteArray) : Oct (bys s) := by
  intro z hz
  obtain ⟨b, _, rfl⟩ := List.mem_map.1 hz
  have := b.toNat_lt; omega
theorem src_str {w : World} (s : ByteArray) : Src Tryz.prog 1 9 (.string s) (bys s).length ((bys s).map (Value.int .u8)) w := by
  have e : (bys s).map (Value.int .u8) = byteCells s := by unfold bys byteCells; rw [List.map_map]; rfl
  rw [e, bys_len]
  exact Src.ofString (P := Tryz.prog) w Tryz.underlying9 s

end Go.Proofs.YtngcbhbcocnbeaaGreat
namespace Go.Proofs.YtngcbhbcocnbeaaGreat
open Go.RowKit

/-- The bytes of numbers, one behind the other. -/
def numsB (ns : List Int) : List Int := (ns.map fun n => numB (u64 n)).flatten
theorem numsB_at (ns : List Int) (k : Nat) (n : Int) (h : ns[k]? = some n) : numsB (ns.take (k + 1)) = numsB (ns.take k) ++ numB (u64 n) := by
  unfold numsB
  rw [List.take_add_one, h]
  simp
theorem numsB_all (ns : List Int) (k : Nat) (h : ns.length ≤ k) : numsB (ns.take k) = numsB ns := by rw [List.take_of_length_le h]
theorem numsB_len (ns : List Int) : (numsB ns).length ≤ 10 * ns.length := by
  induction ns with
  | nil => simp [numsB]
  | cons n t ih =>
    have h1 := numB_ten _ (u64_lt n)
    have e : numsB (n :: t) = numB (u64 n) ++ numsB t := by unfold numsB; simp
    rw [e, List.length_append, List.length_cons]; omega
theorem numsB_le (ns : List Int) (k : Nat) : (numsB (ns.take k)).length ≤ 10 * k := by
  have := numsB_len (ns.take k)
  have h2 : (ns.take k).length ≤ k := by rw [List.length_take]; omega
  omega
theorem at_lt {ns : List Int} {k : Nat} (h : k < ns.length) : ∃ n, ns[k]? = some n := ⟨ns[k], List.getElem?_eq_getElem h⟩

set_option maxRecDepth 10000 in
set_option maxHeartbeats 4000000 in
theorem putNums_any (q c m : Nat) (ns : List Int) (w : World) (hq : q < w.heap.size) (hm : m = ns.length) (h10 : m ≤ 10) (hc : ∀ j n, ns[j]? = some n → w.cell? ⟨q, j, none⟩ = some (.int .i64 n)) :
    Calls Tryz.prog 35 #[.slice (some ⟨q, 0, none⟩) m c] w fun e w' => ∃ a cap, e = .returned (.slice a (numsB ns).length cap) ∧ Own w' w.heap.size (.slice a (numsB ns).length cap) (numsB ns) ∧ Below w.heap.size w w' := by
  obtain ⟨i0, hi, hz0, hz1, hz2⟩ := info_parts Tryz.infoU8
  have HO : Hid (Own (w.alloc (.cells #[] 5)) w.heap.size (.slice (some ⟨w.heap.size, 0, none⟩) 0 0) []) := World.ownsRow_lit w #[] 0 (Nat.le_refl _) (by unfold maxLen; omega) (by simp)
  have HC := hid' hc
  have HM := hid' hm
  clear hc hm
  go_enter Tryz.func35, Tryz.ntmps35
  go_wp2
  go_loopw [3, 10] (fun t3 t10 wr => ∃ k : Nat, k ≤ m ∧ t10 = .int .i64 k ∧ Own wr w.heap.size t3 (numsB (ns.take k)) ∧ Below w.heap.size w wr) (fun _ t10 _ => m - (intOf t10).toNat)
  case atStart => exact ⟨0, Nat.zero_le _, rfl, HO.out, (Below.refl _ w).alloc (Nat.le_refl _) _⟩
  case round =>
    obtain ⟨k, hk, rfl, hown, hbel⟩ := hrel
    by_cases hlt : k < m
    · obtain ⟨n, hn⟩ := at_lt (ns := ns) (k := k) (by have := HM.out; omega)
      have hcc := (hbel.cell (p := ⟨q, k, none⟩) hq).trans (HC.out k n hn)
      have ub : 0 ≤ IntKind.u64.wrap n ∧ IntKind.u64.wrap n < 18446744073709551616 := by rw [IntKind.wrap_u64]; omega
      have HX : Hid (numsB (ns.take k) ++ numB (IntKind.u64.wrap n).toNat = numsB (ns.take (k + 1))) := (numsB_at ns k n hn).symm
      have HL : Hid ((numsB (ns.take (k + 1))).length ≤ 110) := hid' (by have := numsB_le ns (k + 1); omega)
      have HOw0 : Hid (Own _ w.heap.size _ (numsB (ns.take k))) := hown
      have HB0 : Hid (Below w.heap.size w _) := hbel
      generalize hZ : numsB (ns.take (k + 1)) = Z at *
      generalize numsB (ns.take k) = ys0 at *
      have HZ := hid' hZ
      clear hZ
      have k0 : (0 : Int) ≤ (k : Int) := by omega
      have k1 : (k : Int) < (m : Int) := by omega
      clear hown hbel hn
      go_wp2
      go_loopw [3, 6] (fun t3 t6 wr => ∃ (x : Int) (ys : List Int), t6 = .int .u64 x ∧ 0 ≤ x ∧ x < 18446744073709551616 ∧ Own wr w.heap.size t3 ys ∧ ys ++ numB x.toNat = Z ∧ Below w.heap.size w wr) (fun _ t6 _ => (intOf t6).toNat)
      case atStart => exact ⟨_, ys0, rfl, ub.1, ub.2, HOw0.out, HX.out, HB0.out⟩
      case round =>
        obtain ⟨x, ys, rfl, hx0, hx1, hown, heq, hbel⟩ := hrel
        have HE : Hid (ys ++ numB x.toNat = Z) := heq
        have hyl : ys.length ≤ 110 := by have := HL.out; rw [← heq, List.length_append] at this; omega
        have hwz := hbel.size
        have HB : Hid (Below w.heap.size w _) := hbel
        have HOw : Hid (Own _ w.heap.size _ ys) := hown
        clear heq hbel hown hcc
        by_cases hx : x < 128
        · have HN : Hid (ys ++ [x] = Z) := by unfold Hid; rw [← HE.out, numB_loI hx0 hx]
          go_wp2_with (at_builtin; refine wpList_append_lies _ rfl (.tmp 26) (.tmp 29) 35 rfl w.heap.size 5 i0 (.int .u8 0) 1 1 Tryz.underlying35 hi hz0 hz1 hz2 rfl (by decide) _ _ _ rfl (HOw.out.alloc _) ⟨_, 0, none⟩ 1 1 [.int .u8 x] rfl rfl (cell_one_new _ _ _) (one_one _) (by decide) (by unfold maxLen; omega) (by omega) (by simp; omega) _ (by first | rfl | simp) ?_; intro g cap w1 hown hgrow hat hgl)
          have O1 := own_snoc rfl hown
          have B1 : Below w.heap.size w w1 := below_app (HB.out.alloc hwz _) (HOw.out.alloc _) (by simp; omega) hgrow
          rw [HN.out] at O1
          have HO1 : Hid (Own w1 w.heap.size _ _) := O1
          have HB1 : Hid (Below w.heap.size w w1) := B1
          clear hown hgrow hat O1 B1
          go_wp2
          go_roundw
          case rel => exact ⟨k + 1, by omega, by go_num, by rw [HZ.out]; exact HO1.out, HB1.out⟩
          case measure => simp [intOf]; omega
        · have HN : Hid ((ys ++ [x % 128 + 128]) ++ numB (x / 128).toNat = Z) := by unfold Hid; rw [← HE.out, numB_hiI hx, List.append_assoc]; rfl
          have hor := or128 x hx0
          go_wp2_with (at_builtin; refine wpList_append_lies _ rfl (.tmp 18) (.tmp 22) 35 rfl w.heap.size 5 i0 (.int .u8 0) 1 1 Tryz.underlying35 hi hz0 hz1 hz2 rfl (by decide) _ _ _ rfl (HOw.out.alloc _) ⟨_, 0, none⟩ 1 1 [.int .u8 (x % 128 + 128)] rfl rfl (cell_one_new _ _ _) (one_one _) (by decide) (by unfold maxLen; omega) (by omega) (by simp; omega) _ (by first | rfl | simp) ?_; intro g cap w1 hown hgrow hat hgl)
          have O1 := own_snoc rfl hown
          have B1 : Below w.heap.size w w1 := below_app (HB.out.alloc hwz _) (HOw.out.alloc _) (by simp; omega) hgrow
          have HO1 : Hid (Own w1 w.heap.size _ _) := O1
          have HB1 : Hid (Below w.heap.size w w1) := B1
          clear hown hgrow hat O1 B1
          go_wp2
          go_roundw
          case rel => exact ⟨x / 128, _, rfl, by omega, by omega, HO1.out, HN.out, HB1.out⟩
          case measure => simp [intOf]; omega
    · have he := numsB_all ns k (by have := HM.out; omega)
      rw [he] at hown
      obtain ⟨a, cap, rfl, hby⟩ := hown.form
      have HO1 : Hid (Own _ w.heap.size _ _) := hown
      have HB1 : Hid (Below w.heap.size w _) := hbel
      have hkm : k = m := by omega
      clear hown hbel hby
      go_wp2
      go_ret
      exact ⟨a, cap, rfl, HO1.out, HB1.out⟩

set_option maxRecDepth 10000 in
set_option maxHeartbeats 4000000 in
theorem sNums_any (B q c m g L cap : Nat) (ys ns : List Int) (w : World) (hB : B ≤ w.heap.size) (hL : L = ys.length) (hL9 : L ≤ 10000000) (ho : Own w B (.slice (some ⟨g, 0, none⟩) L cap) ys) (hq : q < w.heap.size) (hqg : q ≠ g) (hm : m = ns.length) (h10 : m ≤ 10) (hc : ∀ j n, ns[j]? = some n → w.cell? ⟨q, j, none⟩ = some (.int .i64 n)) :
    Calls Tryz.prog 20 #[.slice (some ⟨g, 0, none⟩) L cap, .slice (some ⟨q, 0, none⟩) m c] w fun e w' => ∃ g' cap', e = .returned (.slice (some ⟨g', 0, none⟩) (ys ++ numsB ns).length cap') ∧ Own w' B (.slice (some ⟨g', 0, none⟩) (ys ++ numsB ns).length cap') (ys ++ numsB ns) ∧ (g' = g ∨ w.heap.size ≤ g') ∧ Below B w w' := by
  have HC := hid' hc
  have HM := hid' hm
  have HO0 : Hid (Own w B (.slice (some ⟨g, 0, none⟩) (ys ++ numsB (ns.take 0)).length cap) (ys ++ numsB (ns.take 0))) := hid' (by subst hL; simpa [numsB] using ho)
  have HL0 := hid' (show (ys ++ numsB (ns.take 0)).length = L by subst hL; simp [numsB])
  clear hc hm ho
  go_enter Tryz.func20, Tryz.ntmps20
  go_wp2_with fail
  go_loopw [0, 5] (fun t0 t5 wr => ∃ (k g' cap' : Nat), k ≤ m ∧ t5 = .int .i64 k ∧ t0 = .slice (some ⟨g', 0, none⟩) (ys ++ numsB (ns.take k)).length cap' ∧ Own wr B (.slice (some ⟨g', 0, none⟩) (ys ++ numsB (ns.take k)).length cap') (ys ++ numsB (ns.take k)) ∧ (g' = g ∨ w.heap.size ≤ g') ∧ (∀ j n, ns[j]? = some n → wr.cell? ⟨q, j, none⟩ = some (.int .i64 n)) ∧ w.heap.size ≤ wr.heap.size ∧ Below B w wr) (fun _ t5 _ => m - (intOf t5).toNat)
  case atStart => exact ⟨0, g, cap, Nat.zero_le _, rfl, by rw [HL0.out], HO0.out, Or.inl rfl, HC.out, Nat.le_refl _, Below.refl _ _⟩
  case round =>
    obtain ⟨k, g', cap', hk, rfl, rfl, hown, hg', hcc, hsz, hbel⟩ := hrel
    have HOw := hid' hown
    have HCC := hid' hcc
    have HB0 := hid' hbel
    have HG := hid' hg'
    clear hown hcc hbel hg'
    by_cases hlt : k < m
    · obtain ⟨n, hn⟩ := at_lt (ns := ns) (k := k) (by have := HM.out; omega)
      have hc1 := HCC.out k n hn
      have HX := hid' (show ys ++ numsB (ns.take (k + 1)) = (ys ++ numsB (ns.take k)) ++ numB (u64 n) by rw [numsB_at ns k n hn, List.append_assoc])
      have HLk := hid' (show (ys ++ numsB (ns.take k)).length ≤ L + 10 * k by rw [List.length_append]; have := numsB_le ns k; omega)
      have HT := hid' (numB_ten _ (u64_lt n))
      generalize ys ++ numsB (ns.take k) = Y at *
      have k0 : (0 : Int) ≤ (k : Int) := by omega
      have k1 : (k : Int) < (m : Int) := by omega
      clear hn
      go_wp2_with fail
      refine (sPutNum_any n _).mono ?_
      rintro e w2 ⟨a2, c2, rfl, o2, b2⟩
      have HO2 := hid' o2
      have HB2 := hid' b2
      have hBr : B ≤ w2.heap.size := by have := b2.size; omega
      clear o2 b2 hc1
      go_wp2_with (at_builtin; refine wpList_app _ rfl (.tmp 12) (.tmp 17) 35 rfl B g' Y.length cap' Y (numB (u64 n)) _ _ rfl rfl rfl (HOw.out.later HB2.out) rfl (src_byt (zs := numB (u64 n)) c2 HO2.out.bytA (by intro h; subst h; exact absurd HO2.out (fun h => by have := Own.head h (numB_pos _); simp at this))) (by have := HT.out; have := HLk.out; omega) hBr ?_; intro g3 c3 w3 hown hgr hat)
      have HO3 := hid' hown
      have HB3 := hid' (below_app (HB0.out.trans (HB2.out.mono (by omega))) (HOw.out.later HB2.out) hBr hgr)
      have HC3 : Hid (∀ j n, ns[j]? = some n → w3.cell? ⟨q, j, none⟩ = some (.int .i64 n)) := hid' (fun j n hj => by
        have h1 := (HB2.out.cell (p := ⟨q, j, none⟩) (by show q < _; omega)).trans (HCC.out j n hj)
        have h2 : q ≠ g' := by rcases HG.out with rfl | h2; exact hqg; omega
        rw [World.cell?_of_block (w := w2) (hgr.block q (World.block_lt_of_cell? w2 _ h1) (fun e => h2 (by simpa using e)))]
        exact h1)
      have hs3 := hgr.size
      have hs2 := HB2.out.size
      have HG3 : Hid (g3 = g ∨ w.heap.size ≤ g3) := hid' (by rcases hat with rfl | rfl; exact HG.out; right; omega)
      clear hown hgr hat
      go_wp2_with fail
      go_roundw
      case rel =>
        refine ⟨k + 1, g3, c3, by omega, by go_num, ?_, ?_, HG3.out, HC3.out, by omega, HB3.out⟩
        · rw [HX.out, List.length_append]
        · rw [HX.out, List.length_append]; exact HO3.out
      case measure => simp [intOf]; omega
    · have he := numsB_all ns k (by have := HM.out; omega)
      rw [he] at HOw ⊢
      go_wp2_with fail
      go_ret
      exact ⟨g', cap', rfl, HOw.out, HG.out, HB0.out⟩

end Go.Proofs.YtngcbhbcocnbeaaGreat
namespace Go.Proofs.YtngcbhbcocnbeaaGreat
open Go.RowKit

/-- The byte i of a word, from the lowest. -/
def byteAt (n : Int) (i : Nat) : Int := n / 2 ^ (8 * i) % 256
def big (n : Int) (c : Nat) : List Int := (List.range c).map fun (j : Nat) => byteAt n (c - 1 - j)
theorem big_len (n : Int) (c : Nat) : (big n c).length = c := by simp [big]
theorem byteAt_bd (n : Int) (i : Nat) : 0 ≤ byteAt n i ∧ byteAt n i ≤ 255 := by unfold byteAt; omega
theorem big_oct (n : Int) (c : Nat) : Oct (big n c) := by
  intro z hz
  obtain ⟨j, _, rfl⟩ := List.mem_map.1 hz
  exact byteAt_bd _ _
/-- Those that are written already, from the end on. -/
def part (n : Int) (c i : Nat) : List Int := (List.range c).map fun (j : Nat) => if c - i ≤ j then byteAt n (c - 1 - j) else 0
theorem part_zero (n : Int) (c : Nat) : part n c 0 = List.replicate c 0 := by
  apply List.ext_getElem?
  intro j
  simp only [part, List.getElem?_map, List.getElem?_replicate]
  by_cases hj : j < c
  · rw [List.getElem?_range hj]; simp; omega
  · rw [List.getElem?_eq_none (by simp; omega)]; simp [hj]
theorem part_all (n : Int) (c : Nat) : part n c c = big n c := by
  unfold part big; apply List.map_congr_left; intro j hj; rw [if_pos (by omega)]
theorem part_step (n : Int) (c i : Nat) (hi : i < c) : ((part n c i).map (Value.int .u8)).set (c - 1 - i) (.int .u8 (byteAt n i)) = (part n c (i + 1)).map (Value.int .u8) := by
  apply List.ext_getElem?
  intro j
  rw [List.getElem?_set]
  simp only [part, List.getElem?_map, List.length_map, List.length_range]
  by_cases hj : j < c
  · rw [List.getElem?_range hj]
    by_cases e : c - 1 - i = j
    · subst e
      simp only [if_true, Option.map_some]
      rw [if_pos (by omega), if_pos (by omega), show c - 1 - (c - 1 - i) = i from by omega]
    · rw [if_neg e]
      simp only [Option.map_some, Option.some.injEq, Value.int.injEq, true_and]
      by_cases h : c - i ≤ j
      · rw [if_pos h, if_pos (by omega)]
      · rw [if_neg h, if_neg (by omega)]
  · rw [if_neg (by omega), List.getElem?_eq_none (by simp; omega)]; rfl
theorem shr_u (n : Int) (k : Nat) (hk : k < 8) : IntKind.u64.wrap n / 2 ^ (8 * k) % 256 = byteAt n k := by
  unfold byteAt; rw [IntKind.wrap_u64]
  have h : k = 0 ∨ k = 1 ∨ k = 2 ∨ k = 3 ∨ k = 4 ∨ k = 5 ∨ k = 6 ∨ k = 7 := by omega
  rcases h with rfl | rfl | rfl | rfl | rfl | rfl | rfl | rfl <;> (simp only [Nat.mul_zero, Nat.mul_one, Nat.reduceMul, Int.reducePow, Int.pow_zero]; omega)

set_option maxRecDepth 10000 in
set_option maxHeartbeats 2000000 in
theorem wordBytes_any (n : Int) (c : Nat) (hc : c ≤ 8) (w : World) :
    Calls Tryz.prog 101 #[.int .i64 n, .int .i64 c] w fun e w' => e = .returned (.slice (some ⟨w.heap.size, 0, none⟩) c c) ∧ Own w' w.heap.size (.slice (some ⟨w.heap.size, 0, none⟩) c c) (big n c) ∧ Below w.heap.size w w' := by
  obtain ⟨i0, hi, hz0, hz1, hz2⟩ := info_parts Tryz.infoU8
  go_enter Tryz.func101, Tryz.ntmps101
  go_wp2_with (refine wpList_make_full _ rfl (.tmp 7) (.tmp 7) 35 rfl w.heap.size 5 i0 (.int .u8 0) 1 Tryz.underlying35 hi hz0 hz1 .i64 .i64 c c c rfl rfl rfl rfl (by rw [hz2]; omega) (by unfold maxLen; omega) (Nat.le_refl _) ?_; intro w1 hown hgrow)
  have HO : Hid (w1.ownsRow w.heap.size 5 1 (.slice (some ⟨w.heap.size, 0, none⟩) c c) c ((part n c 0).map (Value.int .u8))) := by
    have e : (madeCells (Value.int .u8 0).cells (c * 1)).toList = List.replicate c (Value.int .u8 0) := by rw [Nat.mul_one]; exact toList_madeCells_one _ _
    rw [e] at hown
    unfold Hid; rw [part_zero]; simpa using hown
  have HW : Hid (Below w.heap.size w w1) := (Below.refl _ w).grown hgrow (Nat.le_refl _) (fun k hk => by cases hk)
  clear hown hgrow
  go_loopw [11] (fun t11 wr => ∃ k : Nat, k ≤ c ∧ t11 = .int .i64 k ∧ wr.ownsRow w.heap.size 5 1 (.slice (some ⟨w.heap.size, 0, none⟩) c c) c ((part n c k).map (Value.int .u8)) ∧ Below w.heap.size w wr) (fun t11 _ => c - (intOf t11).toNat)
  case atStart => exact ⟨0, Nat.zero_le _, rfl, HO.out, HW.out⟩
  case round =>
    obtain ⟨k, hk, rfl, hown, hbel⟩ := hrel
    by_cases hlt : k < c
    · obtain ⟨j, hj⟩ : ∃ j, j + k + 1 = c := ⟨c - 1 - k, by omega⟩
      have ej : c - 1 - k = j := by omega
      have ce : ∃ v, wr.cell? ⟨w.heap.size, j, none⟩ = some v := by
        have h := hown.cellAt j (by omega)
        rw [h, List.getElem?_eq_getElem (by simp [part]; omega)]
        exact ⟨_, rfl⟩
      obtain ⟨v0, ce⟩ := ce
      have cf := hown.frozenAt j
      have st := hown.stored j (.int .u8 (byteAt n k))
      rw [← ej, part_step n c k hlt, ej] at st
      have HS : Hid (_ ∧ _) := st
      have HBel : Hid (Below w.heap.size w wr) := hbel
      have eij : (c : Int) - 1 - (k : Int) = (j : Int) := by omega
      clear st hown hbel HO HW ej
      go_wp2
      go_roundw
      case rel => exact ⟨k + 1, by omega, by go_num, HS.out.1, HBel.out.setCell (Nat.le_refl _) _⟩
      case measure => simp [intOf]; omega
    · have hkc : k = c := by omega
      subst hkc
      have HO2 : Hid (Own wr w.heap.size (.slice (some ⟨w.heap.size, 0, none⟩) k k) (big n k)) := by
        unfold Hid Own; rw [part_all] at hown; rw [big_len]; exact hown
      have HBel : Hid (Below w.heap.size w wr) := hbel
      clear hown hbel HO HW
      go_wp2
      go_ret
      exact ⟨rfl, HO2.out, HBel.out⟩

/-- The first i bytes. -/
def bigTo (n : Int) (c i : Nat) : List Int := (List.range i).map fun (j : Nat) => byteAt n (c - 1 - j)
theorem bigTo_succ (n : Int) (c i : Nat) : bigTo n c (i + 1) = bigTo n c i ++ [byteAt n (c - 1 - i)] := by simp [bigTo, List.range_succ]
theorem bigTo_len (n : Int) (c i : Nat) : (bigTo n c i).length = i := by simp [bigTo]

set_option maxRecDepth 10000 in
set_option maxHeartbeats 2000000 in
theorem l3Great_any (n : Int) (c : Nat) (hc : c ≤ 8) (h0 : 0 < c) (w : World) :
    Calls Tryz.prog 57 #[.int .i64 n, .int .i64 c] w fun e w' => ∃ g cap, e = .returned (.slice (some ⟨g, 0, none⟩) c cap) ∧ Own w' w.heap.size (.slice (some ⟨g, 0, none⟩) c cap) (big n c) ∧ Below w.heap.size w w' := by
  obtain ⟨i0, hi, hz0, hz1, hz2⟩ := info_parts Tryz.infoU8
  have HO : Hid (Own (w.alloc (.cells #[] 5)) w.heap.size (.slice (some ⟨w.heap.size, 0, none⟩) 0 0) []) := World.ownsRow_lit w #[] 0 (Nat.le_refl _) (by unfold maxLen; omega) (by simp)
  go_enter Tryz.func57, Tryz.ntmps57
  go_wp2
  go_loopw [5, 6] (fun t5 t6 wr => ∃ k : Nat, k ≤ c ∧ t6 = .int .i64 ((c : Int) - 1 - k) ∧ Own wr w.heap.size t5 (bigTo n c k) ∧ Below w.heap.size w wr) (fun _ t6 _ => (intOf t6 + 1).toNat)
  case atStart => exact ⟨0, Nat.zero_le _, by simp, HO.out, (Below.refl _ w).alloc (Nat.le_refl _) _⟩
  case round =>
    obtain ⟨k, hk, rfl, hown, hbel⟩ := hrel
    have hyl := bigTo_len n c k
    have hwz : w.heap.size ≤ wr.heap.size := hbel.size
    have HB : Hid (Below w.heap.size w wr) := hbel
    have HOw : Hid (Own wr w.heap.size _ (bigTo n c k)) := hown
    have HL : Hid ((bigTo n c k).length = k) := hyl
    clear hbel hown hyl HO
    by_cases hlt : k < c
    · obtain ⟨j, hj⟩ : ∃ j : Nat, (c : Int) - 1 - (k : Int) = (j : Int) := ⟨c - 1 - k, by omega⟩
      have hj8 : j < 8 := by omega
      have HV : Hid (IntKind.u64.wrap n / 2 ^ (8 * j) % 256 = byteAt n j) := shr_u n j hj8
      have HJ : Hid (c - 1 - k = j) := by unfold Hid; omega
      rw [hj]
      go_wp2_with (at_builtin; refine wpList_append_lies _ rfl (.tmp 14) (.tmp 22) 35 rfl w.heap.size 5 i0 (.int .u8 0) 1 1 Tryz.underlying35 hi hz0 hz1 hz2 rfl (by decide) _ _ _ rfl (HOw.out.alloc _) ⟨wr.heap.size, 0, none⟩ 1 1 [.int .u8 (IntKind.u64.wrap n / 2 ^ (8 * j) % 256)] rfl rfl (cell_one_new _ _ _) (one_one _) (by decide) (by have := HL.out; unfold maxLen; omega) (by have := HL.out; omega) (by simp; omega) (wr.heap.size + 1) (by simp) ?_; intro g cap w1 hown hgrow hat hgl)
      have O1 := own_snoc rfl hown
      have B1 : Below w.heap.size w w1 := below_app (HB.out.alloc hwz _) (HOw.out.alloc _) (by simp; omega) hgrow
      rw [HV.out, ← HJ.out, ← bigTo_succ] at O1
      have HO1 : Hid (Own w1 w.heap.size _ _) := O1
      have HB1 : Hid (Below w.heap.size w w1) := B1
      clear hown hgrow hat O1 B1
      go_wp2
      go_roundw
      case rel => exact ⟨k + 1, by omega, by go_num, HO1.out, HB1.out⟩
      case measure => simp [intOf]
    · have hkc : k = c := by omega
      subst hkc
      have O1 := HOw.out
      unfold Own at O1
      rw [HL.out] at O1
      obtain ⟨g, cap, rfl, hg1, hg2⟩ := World.ownsRow.form O1 h0
      have HO1 : Hid (Own wr w.heap.size (.slice (some ⟨g, 0, none⟩) k cap) (big n k)) := by
        have e : bigTo n k k = big n k := rfl
        unfold Hid Own; rw [← e, HL.out]; exact O1
      have e0 : (k : Int) - 1 - k = -1 := by omega
      clear O1 HOw
      go_wp2
      go_ret
      exact ⟨g, cap, rfl, HO1.out, HB.out⟩

end Go.Proofs.YtngcbhbcocnbeaaGreat
namespace Go.Proofs.YtngcbhbcocnbeaaGreat
open Go.RowKit

set_option maxRecDepth 10000 in
set_option maxHeartbeats 2000000 in
theorem grow_nil (n : Nat) (w : World) (h0 : 0 < n) (hl : n ≤ 2000000) :
    Calls Tryz.prog 66 #[.slice none 0 0, .int .i64 n] w fun e w' => ∃ cap, e = .returned (.slice (some ⟨w.heap.size, 0, none⟩) 0 cap) ∧ Own w' w.heap.size (.slice (some ⟨w.heap.size, 0, none⟩) 0 cap) [] ∧ Below w.heap.size w w' := by
  obtain ⟨i0, hi, hz0, hz1, hz2⟩ := info_parts Tryz.infoU8
  have hcap := grownCap_le_maxLen w n 0 5 (by unfold maxLen; omega)
  have hr := Lib.run_append_nil_zeros (P := Tryz.prog) w 35 3 35 5 i0 (.int .u8 0) .i64 .i64 Tryz.underlying35 Tryz.underlying3 hi hz0 n h0 (by omega) (by omega) (by rw [hz2]; omega)
  have hge := grownCap_ge w n 0 5
  generalize grownCap w n 0 5 = cap at *
  have HR := hid' hr
  have HC := hid' hcap
  have HGE := hid' hge
  clear hr hcap hge
  have HO : Hid (Own (w.drew.alloc (.cells (Builtin.zeroCells (Value.int .u8 0).cells n ++ Builtin.zeroCells (Value.int .u8 0).cells (cap - n)) 5)) w.heap.size (.slice (some ⟨w.heap.size, 0, none⟩) 0 cap) []) := by
    refine ⟨rfl, Or.inr ⟨w.heap.size, cap, _, rfl, Nat.le_refl _, heap_alloc_new w.drew _, Nat.zero_le _, HC.out, ?_, by simp⟩⟩
    have := HGE.out
    simp [size_zeroCells, Value.cells]; omega
  have HB : Hid (Below w.heap.size w (w.drew.alloc (.cells (Builtin.zeroCells (Value.int .u8 0).cells n ++ Builtin.zeroCells (Value.int .u8 0).cells (cap - n)) 5))) := (Below.refl _ w).drew.alloc (Nat.le_refl _) _
  go_enter Tryz.func66, Tryz.ntmps66
  go_wp2_with (at_builtin; refine Lib.wpList_append_run _ rfl (.tmp 20) (.tmp 21) 35 3 rfl _ _ rfl rfl _ _ HR.out ?_)
  go_ret
  exact ⟨cap, rfl, HO.out, HB.out⟩

/-- The rows zss lie one behind the other in the block q. -/
def Rws (w : World) (q : Nat) (zss : List (List Int)) : Prop := ∀ j, j < zss.length → ∃ a c zs, zss[j]? = some zs ∧ w.cell? ⟨q, j, none⟩ = some (.slice a zs.length c) ∧ Byt w a zs ∧ (a = none → c = 0)
theorem Rws.later {w w' : World} {q : Nat} {zss : List (List Int)} (h : Rws w q zss) (hq : q < w.heap.size) (hb : Below w.heap.size w w') : Rws w' q zss := fun j hj => by
  obtain ⟨a, c, zs, h1, h2, h3, h4⟩ := h j hj
  exact ⟨a, c, zs, h1, (hb.cell (p := ⟨q, j, none⟩) hq).trans h2, h3.later hb, h4⟩
def flt (zss : List (List Int)) (k : Nat) : List Int := (zss.take k).flatten
theorem flat_take (zss : List (List Int)) (k : Nat) (zs : List Int) (h : zss[k]? = some zs) : flt zss (k + 1) = flt zss k ++ zs := by
  unfold flt
  have hk : k < zss.length := by rcases Nat.lt_or_ge k zss.length with h1 | h1; exact h1; rw [List.getElem?_eq_none h1] at h; cases h
  have e : zss[k] = zs := by rw [List.getElem?_eq_getElem hk] at h; simpa using h
  rw [List.take_succ_eq_append_getElem hk, e]; simp
theorem flat_le (zss : List (List Int)) (k : Nat) : (flt zss k).length ≤ zss.flatten.length := by
  unfold flt
  have e : zss.flatten = (zss.take k).flatten ++ (zss.drop k).flatten := by rw [← List.flatten_append, List.take_append_drop]
  rw [e, List.length_append]; omega

set_option maxRecDepth 10000 in
set_option maxHeartbeats 4000000 in
theorem concat_any (q n c : Nat) (zss : List (List Int)) (w : World) (hn : zss.length = n) (hn9 : n ≤ 1000) (hq : q < w.heap.size) (hR : Rws w q zss) (h0 : 0 < zss.flatten.length) (hl : zss.flatten.length ≤ 2000000) :
    Calls Tryz.prog 29 #[.slice (some ⟨q, 0, none⟩) n c] w fun e w' => ∃ g cap, e = .returned (.slice (some ⟨g, 0, none⟩) zss.flatten.length cap) ∧ Own w' w.heap.size (.slice (some ⟨g, 0, none⟩) zss.flatten.length cap) zss.flatten ∧ Below w.heap.size w w' := by
  have HN := hid' hn
  have HR := hid' hR
  have HL := hid' hl
  have H0 := hid' h0
  clear hn hR hl h0
  go_enter Tryz.func29, Tryz.ntmps29
  go_wp2
  go_loop [3, 11] (fun t3 t11 => ∃ k : Nat, k ≤ n ∧ t11 = .int .i64 k ∧ t3 = .int .i64 ((flt zss k).length : Int)) (fun _ t11 => n - (intOf t11).toNat)
  case atStart => exact ⟨0, Nat.zero_le _, rfl, by simp [flt]⟩
  case round =>
    obtain ⟨k, hk, rfl, rfl⟩ := hrel
    have hle := flat_le zss k
    have hle2 := HL.out
    by_cases hlt : k < n
    · obtain ⟨a, c1, zs, h1, h2, h3, h4⟩ := HR.out k (by rw [HN.out]; exact hlt)
      have hf := flat_take zss k zs h1
      have hle3 := flat_le zss (k + 1)
      have HF : Hid ((flt zss (k + 1)).length = (flt zss k).length + zs.length) := by unfold Hid; rw [hf, List.length_append]
      have hb2 : (flt zss k).length + zs.length ≤ 2000000 := by have := HF.out; omega
      clear hf h3 h4 h1 hle3 hle2
      generalize (flt zss k).length = L at *
      go_wp2
      go_round
      case rel => exact ⟨k + 1, by omega, by go_num, by rw [HF.out]; go_num⟩
      case measure => simp [intOf]; omega
    · have hkn : k = n := by omega
      subst hkn
      have ht : flt zss k = zss.flatten := by unfold flt; rw [List.take_of_length_le (by have := HN.out; omega)]
      rw [ht]
      have hp := H0.out
      clear ht hle
      generalize hL : zss.flatten.length = L at *
      have HLL := hid' hL
      clear hL
      go_wp2_with fail
      refine (grow_nil L w hp (by omega)).mono ?_
      rintro e w1 ⟨c0, rfl, ho, hb⟩
      have HR1 := hid' (HR.out.later hq hb)
      have HO := hid' ho
      have HB := hid' hb
      have hz := hb.size
      clear ho hb
      go_wp2_with fail
      go_loopw [6, 27] (fun t6 t27 wr => ∃ (i g cp : Nat), i ≤ k ∧ t27 = .int .i64 i ∧ t6 = .slice (some ⟨g, 0, none⟩) ((flt zss i).length) cp ∧ Own wr w.heap.size (.slice (some ⟨g, 0, none⟩) ((flt zss i).length) cp) (flt zss i) ∧ Below w.heap.size w wr) (fun _ t27 _ => k - (intOf t27).toNat)
      case atStart => exact ⟨0, w.heap.size, c0, Nat.zero_le _, rfl, rfl, HO.out, HB.out⟩
      case round =>
        obtain ⟨i, g, cp, hi, rfl, rfl, hown, hbel⟩ := hrel
        have hle := flat_le zss i
        by_cases hlt : i < k
        · obtain ⟨a, c1, zs, h1, h2, h3, h4⟩ := HR.out i (by rw [HN.out]; exact hlt)
          have hc2 : wr.cell? ⟨q, i, none⟩ = some (.slice a zs.length c1) := (hbel.cell (p := ⟨q, i, none⟩) hq).trans h2
          have HS := hid' (h3.later hbel)
          have HA := hid' h4
          have hf := flat_take zss i zs h1
          have hle3 := flat_le zss (i + 1)
          have HF := hid' hf
          have hb2 : (flt zss i).length + zs.length ≤ 2000000 := by have := HLL.out; rw [hf, List.length_append] at hle3; omega
          have HO1 := hid' hown
          have HB1 := hid' hbel
          have hz1 := hbel.size
          clear hown hbel h1 h2 h3 h4 hf hle3 hle HO HB HR1 HR
          go_wp2_with (at_builtin; refine wpList_app _ rfl (.tmp 31) (.tmp 32) 35 rfl w.heap.size g _ cp _ zs _ _ rfl rfl rfl HO1.out rfl (src_byt _ HS.out HA.out) (by omega) hz1 ?_; intro h c w2 hown hgr hat)
          have HB2 := hid' (below_app HB1.out HO1.out hz1 hgr)
          rw [← HF.out] at hown
          have HO2 := hid' hown
          clear hown hgr hat
          go_wp2_with fail
          go_roundw
          case rel => exact ⟨i + 1, h, c, by omega, by go_num, by rw [HF.out, List.length_append], by rw [HF.out, List.length_append, ← HF.out]; exact HO2.out, HB2.out⟩
          case measure => simp [intOf]; omega
        · have hik : i = k := by omega
          subst hik
          have ht : flt zss i = zss.flatten := by unfold flt; rw [List.take_of_length_le (by have := HN.out; omega)]
          have HO1 : Hid (Own wr w.heap.size (.slice (some ⟨g, 0, none⟩) L cp) zss.flatten) := by rw [ht, HLL.out] at hown; exact hown
          have HB1 := hid' hbel
          rw [ht, HLL.out]
          clear hown hbel hle ht
          go_wp2_with fail
          go_ret
          refine ⟨g, cp, ?_, ?_, HB1.out⟩
          · rw [HLL.out]; rfl
          · rw [HLL.out]; exact HO1.out

end Go.Proofs.YtngcbhbcocnbeaaGreat
namespace Go.Proofs.YtngcbhbcocnbeaaGreat
open Go.RowKit

def adrB (s : Bool) (h l : Int) : List Int := if okB s h l = true then (if s = true then 6 :: (big h 8 ++ big l 8) else 4 :: big l 4) else []
theorem adrB_no {s : Bool} {h l : Int} (e : okB s h l = false) : adrB s h l = [] := by unfold adrB; rw [e]; rfl
theorem adrB_6 {h l : Int} : adrB true h l = ([6] ++ big h 8) ++ big l 8 := by unfold adrB; rw [okB_t]; rfl
theorem adrB_4 {h l : Int} (e : okB false h l = true) : adrB false h l = [4] ++ big l 4 := by unfold adrB; rw [e]; rfl
theorem adrB_len (s : Bool) (h l : Int) : (adrB s h l).length ≤ 17 := by
  unfold adrB; split
  · split <;> simp [big]
  · simp
theorem own_lit (w : World) (B : Nat) (z : Int) (h : B ≤ w.heap.size) : Own (w.alloc (.cells #[.int .u8 z] 5)) B (.slice (some ⟨w.heap.size, 0, none⟩) 1 1) [z] :=
  World.ownsRow_lit w #[.int .u8 z] 1 h (by unfold maxLen; omega) (by simp)
theorem own_nil (w : World) (B : Nat) (h : B ≤ w.heap.size) : Own (w.alloc (.cells #[] 5)) B (.slice (some ⟨w.heap.size, 0, none⟩) 0 0) [] :=
  World.ownsRow_lit w #[] 0 h (by unfold maxLen; omega) (by simp)

theorem own_litD (w : World) (B : Nat) (z : Int) (h : B ≤ w.heap.size) : Own (w.alloc (.cells #[.int .u8 z] 5)).drew B (.slice (some ⟨w.heap.size, 0, none⟩) 1 1) [z] := own_lit w B z h
theorem own_allocD {w : World} {B : Nat} {v : Value} {zs : List Int} (h : Own w B v zs) (o : Obj) : Own (w.alloc o).drew B v zs := h.alloc o
theorem le_allocD (w : World) (o : Obj) {B : Nat} (h : B ≤ w.heap.size) : B ≤ (w.alloc o).drew.heap.size := by simp; omega
theorem lt_allocD (w : World) (o : Obj) {B : Nat} (h : B < w.heap.size) : B < (w.alloc o).drew.heap.size := by simp; omega
theorem gt_of {B g a b : Nat} (t : g = a ∨ g = b) (h1 : B < a) (h2 : B < b) : B < g := by rcases t with rfl | rfl <;> assumption
theorem belowA {w w1 w2 : World} {o : Obj} (h : Below w.heap.size w w1) (hz : w.heap.size ≤ w1.heap.size) (b : Below (w1.alloc o).drew.heap.size (w1.alloc o).drew w2) : Below w.heap.size w w2 :=
  (h.alloc hz o).drew.trans (b.mono (le_allocD w1 o hz))
theorem belowD {w w1 w2 : World} {o : Obj} (h : Below w.heap.size w w1) (hz : w.heap.size ≤ w1.heap.size) (b : Below w1.drew.heap.size w1.drew w2) : Below w.heap.size w (w2.alloc o) :=
  (h.drew.trans (b.mono hz)).alloc (Nat.le_trans hz b.size) o
theorem le9 (h : Int) : 1 + (big h 8).length ≤ 1000000000 := by simp [big]
theorem le17 (h l : Int) : (1 + (big h 8).length) + (big l 8).length ≤ 1000000000 := by simp [big]
/-- A box's two words, behind a call, and behind what turns another row alone. -/
theorem keepB {B : Nat} {h l : Int} {W X : World} (hS : W.cell? ⟨B, 1, none⟩ = some (.int .i64 h) ∧ W.cell? ⟨B, 2, none⟩ = some (.int .i64 l) ∧ B < W.heap.size) (b : Below W.heap.size W X) :
    X.cell? ⟨B, 1, none⟩ = some (.int .i64 h) ∧ X.cell? ⟨B, 2, none⟩ = some (.int .i64 l) ∧ B < X.heap.size :=
  ⟨(b.cell (p := ⟨B, 1, none⟩) hS.2.2).trans hS.1, (b.cell (p := ⟨B, 2, none⟩) hS.2.2).trans hS.2.1, Nat.lt_of_lt_of_le hS.2.2 b.size⟩
theorem keepA {B : Nat} {h l : Int} {W : World} (hS : W.cell? ⟨B, 1, none⟩ = some (.int .i64 h) ∧ W.cell? ⟨B, 2, none⟩ = some (.int .i64 l) ∧ B < W.heap.size) (o : Obj) :
    (W.alloc o).cell? ⟨B, 1, none⟩ = some (.int .i64 h) ∧ (W.alloc o).cell? ⟨B, 2, none⟩ = some (.int .i64 l) ∧ B < (W.alloc o).heap.size := keepB hS ((Below.refl _ W).alloc (Nat.le_refl _) o)
theorem keepG {B g : Nat} {h l : Int} {W X : World} (hS : W.cell? ⟨B, 1, none⟩ = some (.int .i64 h) ∧ W.cell? ⟨B, 2, none⟩ = some (.int .i64 l) ∧ B < W.heap.size) (hne : B ≠ g) (b : W.grownBy X (some g)) :
    X.cell? ⟨B, 1, none⟩ = some (.int .i64 h) ∧ X.cell? ⟨B, 2, none⟩ = some (.int .i64 l) ∧ B < X.heap.size :=
  ⟨(b.cell_far ⟨B, 1, none⟩ hS.2.2 (by simpa using hne)).trans hS.1, (b.cell_far ⟨B, 2, none⟩ hS.2.2 (by simpa using hne)).trans hS.2.1, Nat.lt_of_lt_of_le hS.2.2 b.size⟩

set_option maxRecDepth 10000 in
set_option maxHeartbeats 4000000 in
theorem sPutAddr_any (s : Bool) (h l : Int) (w : World) :
    Calls Tryz.prog 24 #[.agg #[.bool s, .int .i64 h, .int .i64 l]] w fun e w' => ∃ g c, e = .returned (.slice (some ⟨g, 0, none⟩) (adrB s h l).length c) ∧ Own w' w.heap.size (.slice (some ⟨g, 0, none⟩) (adrB s h l).length c) (adrB s h l) ∧ Below w.heap.size w w' := by
  cases hok : okB s h l
  · have HA : Hid (adrB s h l = []) := adrB_no hok
    have HK := hid' hok
    clear hok
    go_enter Tryz.func24, Tryz.ntmps24
    go_wp2_with fail
    refine (sAddrOk_any s h l _).mono ?_
    rw [HK.out]
    rintro e w1 ⟨rfl, hb⟩
    have HB := hid' ((((Below.refl _ w).alloc (Nat.le_refl _) _).trans (hb.mono (by simp))))
    have hz := HB.out.size
    clear hb
    go_wp2_with fail
    go_ret
    rw [HA.out]
    exact ⟨w1.heap.size, 0, rfl, own_nil w1 _ hz, HB.out.alloc hz _⟩
  · have HK := hid' hok
    cases s
    · have HA := hid' (adrB_4 hok)
      clear hok
      go_enter Tryz.func24, Tryz.ntmps24
      go_wp2_with fail
      refine (sAddrOk_any false h l _).mono ?_
      rw [HK.out]
      rintro e w1 ⟨rfl, hb⟩
      have HB := hid' ((((Below.refl _ w).alloc (Nat.le_refl _) _).trans (hb.mono (by simp))))
      obtain ⟨hc, hf⟩ := olds (n := w.heap.size + 1) (hb.mono (by simp))
      have hz := HB.out.size
      have hz1 : w.heap.size < w1.heap.size := by have := hb.size; simp at this; omega
      clear hb
      go_wp2_with fail
      refine (l3Great_any l 4 (by omega) (by omega) _).mono ?_
      rintro e w2 ⟨g, c, rfl, ho, hb⟩
      have HB2 := hid' (((HB.out.alloc hz _).trans (hb.mono (by simp; omega))))
      have HO1 := hid' ((own_lit w1 w.heap.size 4 hz).later hb)
      have HO2 := hid' ho
      have hz2 := HB2.out.size
      clear ho hb
      go_wp2_with (at_builtin; refine wpList_app _ rfl (.tmp 10) (.tmp 13) 35 rfl w.heap.size w1.heap.size 1 1 [4] (big l 4) _ _ rfl rfl rfl HO1.out rfl (src_byt (zs := big l 4) c HO2.out.bytA (by simp)) (by simp [big]) hz2 ?_; intro h' c' w3 hown hgr hat)
      have HB3 := hid' (below_app HB2.out HO1.out hz2 hgr)
      have HO3 := hid' hown
      clear hown hgr hat
      go_wp2_with fail
      go_ret
      refine ⟨h', c', ?_, ?_, HB3.out⟩
      · rw [HA.out, List.length_append]; rfl
      · rw [HA.out, List.length_append]; exact HO3.out
    · have HA := hid' (@adrB_6 h l)
      clear hok
      go_enter Tryz.func24, Tryz.ntmps24
      go_wp2_with fail
      refine (sAddrOk_any true h l _).mono ?_
      rw [HK.out]
      rintro e w1 ⟨rfl, hb⟩
      have HB := hid' ((((Below.refl _ w).alloc (Nat.le_refl _) _).trans (hb.mono (by simp))))
      obtain ⟨hc, hf⟩ := olds (n := w.heap.size + 1) (hb.mono (by simp))
      have hz := HB.out.size
      have hz1 : w.heap.size < w1.heap.size := by have := hb.size; simp at this; omega
      have c0 : w1.cell? ⟨w.heap.size, 0, none⟩ = some (.bool true) := by rw [hc _ _ (Nat.lt_succ_self _)]; simp [go_sem]
      have c1 : w1.cell? ⟨w.heap.size, 1, none⟩ = some (.int .i64 h) := by rw [hc _ _ (Nat.lt_succ_self _)]; simp [go_sem]
      have c2 : w1.cell? ⟨w.heap.size, 2, none⟩ = some (.int .i64 l) := by rw [hc _ _ (Nat.lt_succ_self _)]; simp [go_sem]
      clear hb hf hc
      go_wp2_with fail
      go_region_held3 (fun w' => w'.cell? ⟨w.heap.size, 1, none⟩ = some (.int .i64 h) ∧ w'.cell? ⟨w.heap.size, 2, none⟩ = some (.int .i64 l) ∧ w.heap.size < w'.heap.size) (first | (exact keepB (by assumption) b1) | (exact keepG (by assumption) (Nat.ne_of_lt hg1) gb) | (exact keepG (by assumption) (Nat.ne_of_lt hg0) ga) | (refine ⟨?_, ?_, ?_⟩ <;> first | (go_keep; done) | (simp; omega)))
        (first | (go_at_call 57; refine (l3Great_any _ 8 (by omega) (by omega) _).mono ?_; rintro e w2 ⟨g, c, rfl, o1, b1⟩) | (refine step_app _ rfl (.tmp 19) (.tmp 22) 35 rfl w.heap.size g1 (1 + (big h 8).length) c1' ([6] ++ big h 8) (big l 8) _ _ rfl rfl rfl (oa.later b1) rfl (src_byt (zs := big l 8) _ o1.bytA (by simp)) (le17 h l) (Nat.le_trans hz3 b1.size) ?_; intro g2 c2' w5 ob gb tb; have hbD := below_app (hbA.trans (b1.mono hz3)) (oa.later b1) (Nat.le_trans hz3 b1.size) gb) | (refine step_app _ rfl (.tmp 15) (.tmp 18) 35 rfl w.heap.size w1.heap.size 1 1 [6] (big h 8) _ _ rfl rfl rfl ((own_litD w1 _ 6 hz).later b1) rfl (src_byt (zs := big h 8) _ o1.bytA (by simp)) (le9 h) (Nat.le_trans (le_allocD w1 _ hz) b1.size) ?_; intro g1 c1' w3 oa ga ta; have hz3 := Nat.le_trans (Nat.le_trans (le_allocD w1 _ hz) b1.size) ga.size; have hbA := below_app (belowA HB.out hz b1) ((own_litD w1 _ 6 hz).later b1) (Nat.le_trans (le_allocD w1 _ hz) b1.size) ga; have hg0 := hz1; have hg1 := gt_of ta hz1 (Nat.lt_of_lt_of_le (lt_allocD w1 _ hz1) b1.size)) | (refine step_app _ rfl (.tmp 15) (.tmp 18) 35 rfl w.heap.size w2.heap.size 1 1 [6] (big h 8) _ _ rfl rfl rfl (own_litD w2 _ 6 (Nat.le_trans hz b1.size)) rfl (src_byt (zs := big h 8) _ (own_allocD o1 _).bytA (by simp)) (le9 h) (le_allocD w2 _ (Nat.le_trans hz b1.size)) ?_; intro g1 c1' w3 oa ga ta; have hz3 := Nat.le_trans (le_allocD w2 _ (Nat.le_trans hz b1.size)) ga.size; have hbA := below_app (belowD HB.out hz b1) (own_lit w2 _ 6 (Nat.le_trans hz b1.size)) (le_allocD w2 _ (Nat.le_trans hz b1.size)) ga; have hg0 := Nat.lt_of_lt_of_le hz1 b1.size; have hg1 := gt_of ta hg0 (lt_allocD w2 _ hg0)))
      all_goals
        have HO5 := hid' ob
        have HB5 := hid' hbD
        go_wp2_with fail
        go_ret
        refine ⟨g2, c2', ?_, ?_, HB5.out⟩
        · rw [HA.out]; simp only [List.length_append, List.length_cons, List.length_nil, Nat.zero_add]; rfl
        · rw [HA.out]; simp only [List.length_append, List.length_cons, List.length_nil, Nat.zero_add]; exact HO5.out

theorem rws3 {W : World} {h l : Int} {b0 b1 b2 c0 c1 c2 : Nat} {a0 a1 a2 : Addr} {B0 B1 B2 : Nat} (o0 : Own W B0 (.slice (some a0) 1 c0) [6]) (o1 : Own W B1 (.slice (some a1) 8 c1) (big h 8)) (o2 : Own W B2 (.slice (some a2) 8 c2) (big l 8))
    (e0 : b0 = 1) (e1 : b1 = 8) (e2 : b2 = 8) : Rws (W.alloc (.cells #[.slice (some a0) b0 c0, .slice (some a1) b1 c1, .slice (some a2) b2 c2] 35)) W.heap.size [[6], big h 8, big l 8] := by
  subst e0 e1 e2
  intro j hj
  have hj3 : j = 0 ∨ j = 1 ∨ j = 2 := by simp at hj; omega
  rcases hj3 with rfl | rfl | rfl
  · exact ⟨some a0, c0, [6], rfl, by simp [go_sem], (o0.alloc _).bytA, by simp⟩
  · exact ⟨some a1, c1, big h 8, rfl, by simp [go_sem, big], (o1.alloc _).bytA, by simp⟩
  · exact ⟨some a2, c2, big l 8, rfl, by simp [go_sem, big], (o2.alloc _).bytA, by simp⟩
theorem rws3q {W : World} {h l : Int} {q c0 c1 c2 : Nat} {a0 a1 a2 : Addr} {B0 B1 B2 : Nat} (o0 : Own W B0 (.slice (some a0) 1 c0) [6]) (o1 : Own W B1 (.slice (some a1) 8 c1) (big h 8)) (o2 : Own W B2 (.slice (some a2) 8 c2) (big l 8))
    (hq : q = W.heap.size) : Rws (W.alloc (.cells #[.slice (some a0) 1 c0, .slice (some a1) 8 c1, .slice (some a2) 8 c2] 35)) q [[6], big h 8, big l 8] := by
  subst hq; exact rws3 o0 o1 o2 rfl rfl rfl
theorem rws2 {W : World} {l : Int} {c0 c1 : Nat} {a0 a1 : Addr} {B0 B1 : Nat} (o0 : Own W B0 (.slice (some a0) 1 c0) [4]) (o1 : Own W B1 (.slice (some a1) 4 c1) (big l 4)) :
    Rws (W.alloc (.cells #[.slice (some a0) 1 c0, .slice (some a1) 4 c1] 35)) W.heap.size [[4], big l 4] := by
  intro j hj
  have hj3 : j = 0 ∨ j = 1 := by simp at hj; omega
  rcases hj3 with rfl | rfl
  · exact ⟨some a0, c0, [4], rfl, by simp [go_sem], (o0.alloc _).bytA, by simp⟩
  · exact ⟨some a1, c1, big l 4, rfl, by simp [go_sem, big], (o1.alloc _).bytA, by simp⟩
theorem fin_below {w cur wC : World} {o : Obj} (h : Below w.heap.size w cur) (b : Below (cur.alloc o).heap.size (cur.alloc o) wC) : Below w.heap.size w wC :=
  (h.alloc h.size o).trans (b.mono (by have := h.size; simp; omega))
theorem fin_own {w cur wC : World} {o : Obj} {v : Value} {zs : List Int} (h : Below w.heap.size w cur) (b : Own wC (cur.alloc o).heap.size v zs) : Own wC w.heap.size v zs :=
  b.mono (by have := h.size; simp; omega)
theorem fl3 (h l : Int) : [[6], big h 8, big l 8].flatten = adrB true h l := by rw [adrB_6]; simp
theorem fl2 {h l : Int} (e : okB false h l = true) : [[4], big l 4].flatten = adrB false h l := by rw [adrB_4 e]; simp
theorem adrB_len6 (h l : Int) : (adrB true h l).length = (big h 8).length + (big l 8).length + 1 := by rw [adrB_6]; simp only [List.length_append, List.length_cons, List.length_nil]; omega
theorem fl3_len (h l : Int) : ([[6], big h 8, big l 8].flatten).length = 17 := by simp [big]
theorem fl2_len (l : Int) : ([[4], big l 4].flatten).length = 5 := by simp [big]
theorem lt_alloc (w : World) (o : Obj) : w.heap.size < (w.alloc o).heap.size := by simp

theorem wordBytes_ex (n : Int) (c : Nat) (hc : c ≤ 8) (w : World) :
    Calls Tryz.prog 101 #[.int .i64 n, .int .i64 c] w fun e w' => ∃ g, e = .returned (.slice (some ⟨g, 0, none⟩) c c) ∧ Own w' w.heap.size (.slice (some ⟨g, 0, none⟩) c c) (big n c) ∧ Below w.heap.size w w' :=
  (wordBytes_any n c hc w).mono fun _ _ h => ⟨w.heap.size, h.1, h.2.1, h.2.2⟩

set_option maxRecDepth 10000 in
set_option maxHeartbeats 4000000 in
theorem iPutAddr_any (s : Bool) (h l : Int) (w : World) :
    Calls Tryz.prog 69 #[.agg #[.bool s, .int .i64 h, .int .i64 l]] w fun e w' => ∃ g c, e = .returned (.slice (some ⟨g, 0, none⟩) (adrB s h l).length c) ∧ Own w' w.heap.size (.slice (some ⟨g, 0, none⟩) (adrB s h l).length c) (adrB s h l) ∧ Below w.heap.size w w' := by
  cases hok : okB s h l
  · have HA : Hid (adrB s h l = []) := adrB_no hok
    have HK := hid' hok
    clear hok
    go_enter Tryz.func69, Tryz.ntmps69
    go_wp2_with fail
    refine (iAddrOk_any s h l _).mono ?_
    rw [HK.out]
    rintro e w1 ⟨rfl, hb⟩
    have HB := hid' ((((Below.refl _ w).alloc (Nat.le_refl _) _).trans (hb.mono (by simp))))
    have hz := HB.out.size
    clear hb
    go_wp2_with fail
    go_ret
    rw [HA.out]
    exact ⟨w1.heap.size, 0, rfl, own_nil w1 _ hz, HB.out.alloc hz _⟩
  · have HK := hid' hok
    cases s
    · have HA := hid' (fl2 hok)
      clear hok
      go_enter Tryz.func69, Tryz.ntmps69
      go_wp2_with fail
      refine (iAddrOk_any false h l _).mono ?_
      rw [HK.out]
      rintro e w1 ⟨rfl, hb⟩
      have HB := hid' ((((Below.refl _ w).alloc (Nat.le_refl _) _).trans (hb.mono (by simp))))
      obtain ⟨hc, hf⟩ := olds (n := w.heap.size + 1) (hb.mono (by simp))
      have hz := HB.out.size
      have hz1 : w.heap.size < w1.heap.size := by have := hb.size; simp at this; omega
      clear hb
      go_wp2_with fail
      refine (wordBytes_ex l 4 (by omega) _).mono ?_
      rintro e w2 ⟨gA, rfl, ho, hb⟩
      have HB2 := hid' (((HB.out.alloc hz _).trans (hb.mono (by simp; omega))))
      have HO1 := hid' ((own_lit w1 w.heap.size 4 hz).later hb)
      have HO2 := hid' ho
      have hz2 := HB2.out.size
      clear ho hb
      go_wp2_with fail
      refine (concat_any w2.heap.size 2 2 [[4], big l 4] _ rfl (by omega) (lt_alloc _ _) (rws2 HO1.out HO2.out) (by rw [fl2_len]; omega) (by rw [fl2_len]; omega)).mono ?_
      rintro e w3 ⟨g, c, rfl, ho, hb⟩
      have HO3 := hid' (ho.mono (B' := w.heap.size) (by simp; omega))
      have HB3 := hid' (fin_below HB2.out hb)
      rw [HA.out] at *
      clear ho hb
      go_wp2_with fail
      go_ret
      exact ⟨g, c, rfl, HO3.out, HB3.out⟩
    · have HA := hid' (fl3 h l)
      clear hok
      go_enter Tryz.func69, Tryz.ntmps69
      go_wp2_with fail
      refine (iAddrOk_any true h l _).mono ?_
      rw [HK.out]
      rintro e w1 ⟨rfl, hb⟩
      have HB := hid' ((((Below.refl _ w).alloc (Nat.le_refl _) _).trans (hb.mono (by simp))))
      obtain ⟨hc, hf⟩ := olds (n := w.heap.size + 1) (hb.mono (by simp))
      have hz := HB.out.size
      have hz1 : w.heap.size < w1.heap.size := by have := hb.size; simp at this; omega
      have c0 : w1.cell? ⟨w.heap.size, 0, none⟩ = some (.bool true) := by rw [hc _ _ (Nat.lt_succ_self _)]; simp [go_sem]
      have c1 : w1.cell? ⟨w.heap.size, 1, none⟩ = some (.int .i64 h) := by rw [hc _ _ (Nat.lt_succ_self _)]; simp [go_sem]
      have c2 : w1.cell? ⟨w.heap.size, 2, none⟩ = some (.int .i64 l) := by rw [hc _ _ (Nat.lt_succ_self _)]; simp [go_sem]
      clear hb hf hc
      go_wp2_with fail
      have hzD : w.heap.size ≤ w1.drew.heap.size := hz
      go_region_held3 (fun w' => w'.cell? ⟨w.heap.size, 1, none⟩ = some (.int .i64 h) ∧ w'.cell? ⟨w.heap.size, 2, none⟩ = some (.int .i64 l) ∧ w.heap.size < w'.heap.size) (first | (with_reducible exact keepA (by assumption) _) | (exact keepB (by assumption) bC) | (exact keepB (by assumption) bB) | (exact keepB (by assumption) bA) | (refine ⟨?_, ?_, ?_⟩ <;> first | (go_keep; done) | (simp; omega)))
        (first | (go_at_call_of 101 (Value.int .i64 h); refine (wordBytes_ex h 8 (by omega) _).mono ?_; rintro e wA ⟨gA, rfl, oA, bA⟩; have hBA : Below w.heap.size w wA := (by first | with_reducible exact belowA HB.out hz bA | with_reducible exact Below.trans (Below.drew HB.out) (bA.mono hzD)); have hzA := hBA.size) | (go_at_call_of 101 (Value.int .i64 l); refine (wordBytes_ex l 8 (by omega) _).mono ?_; rintro e wB ⟨gB, rfl, oB, bB⟩; have hBB : Below w.heap.size w wB := (by first | with_reducible exact hBA.trans (bB.mono hzA) | with_reducible exact fin_below hBA bB); have hzB := hBB.size) | (go_at_call 29; refine (concat_any _ 3 3 [[6], big h 8, big l 8] _ rfl (by omega) ?_ ?_ (by rw [fl3_len]; omega) (by rw [fl3_len]; omega)).mono ?_; (focus (first | with_reducible exact lt_alloc _ _ | (simp; done))); (focus (first | with_reducible exact rws3 (((own_litD w1 w.heap.size 6 hz).later bA).later bB) (oA.later bB) oB rfl rfl rfl | with_reducible exact rws3 ((own_lit wA w.heap.size 6 hzA).later bB) ((oA.alloc _).later bB) oB rfl rfl rfl | with_reducible exact rws3q (own_lit wB w.heap.size 6 hzB) ((oA.later bB).alloc _) (oB.alloc _) (by simp))); rintro e wC ⟨g, c, rfl, oC, bC⟩; (first | (have hbC : Below w.heap.size w wC := (by with_reducible exact fin_below hBB bC); have hoC : Own wC w.heap.size (.slice (some ⟨g, 0, none⟩) ([[6], big h 8, big l 8].flatten).length c) ([[6], big h 8, big l 8].flatten) := (by with_reducible exact fin_own hBB oC)) | (have hbC : Below w.heap.size w wC := (by with_reducible exact fin_below (hBB.alloc hzB _) bC); have hoC : Own wC w.heap.size (.slice (some ⟨g, 0, none⟩) ([[6], big h 8, big l 8].flatten).length c) ([[6], big h 8, big l 8].flatten) := (by with_reducible exact fin_own (hBB.alloc hzB _) oC)))))
      all_goals
        have HO5 := hid' hoC
        have HB5 := hid' hbC
        rw [HA.out] at HO5
        go_wp2_with fail
        go_ret
        exact ⟨g, c, by rw [adrB_len6]; rfl, HO5.out, HB5.out⟩

end Go.Proofs.YtngcbhbcocnbeaaGreat
namespace Go.Proofs.YtngcbhbcocnbeaaGreat
open Go.RowKit

set_option maxRecDepth 10000 in
set_option maxHeartbeats 2000000 in
theorem putNums_one (q c : Nat) (n : Int) (w : World) (hq : q < w.heap.size) (hc : w.cell? ⟨q, 0, none⟩ = some (.int .i64 n)) :
    Calls Tryz.prog 35 #[.slice (some ⟨q, 0, none⟩) 1 c] w fun e w' => ∃ a cap, e = .returned (.slice a (numB (u64 n)).length cap) ∧ Own w' w.heap.size (.slice a (numB (u64 n)).length cap) (numB (u64 n)) ∧ Below w.heap.size w w' := by
  obtain ⟨i0, hi, hz0, hz1, hz2⟩ := info_parts Tryz.infoU8
  have HT : Hid ((numB (u64 n)).length ≤ 10) := numB_ten _ (u64_lt n)
  have ub : 0 ≤ IntKind.u64.wrap n ∧ IntKind.u64.wrap n < 18446744073709551616 := by rw [IntKind.wrap_u64]; omega
  unfold u64 at HT ⊢
  have HO : Hid (Own (w.alloc (.cells #[] 5)) w.heap.size (.slice (some ⟨w.heap.size, 0, none⟩) 0 0) []) := World.ownsRow_lit w #[] 0 (Nat.le_refl _) (by unfold maxLen; omega) (by simp)
  generalize hX : numB (IntKind.u64.wrap n).toNat = Z at HT ⊢
  have HX : Hid (numB (IntKind.u64.wrap n).toNat = Z) := hX
  have HC : Hid (w.cell? ⟨q, 0, none⟩ = some (.int .i64 n)) := hc
  clear hX hc
  go_enter Tryz.func35, Tryz.ntmps35
  go_wp2
  go_loopw [3, 10] (fun t3 t10 wr => (t10 = .int .i64 0 ∧ t3 = .slice (some ⟨w.heap.size, 0, none⟩) 0 0 ∧ wr = w.alloc (.cells #[] 5)) ∨ (t10 = .int .i64 1 ∧ Own wr w.heap.size t3 Z ∧ Below w.heap.size w wr)) (fun _ t10 _ => (1 - intOf t10).toNat)
  case atStart => exact Or.inl ⟨rfl, rfl, rfl⟩
  case round =>
    rcases hrel with ⟨rfl, rfl, rfl⟩ | ⟨rfl, hown, hbel⟩
    · have hcc : (w.alloc (.cells #[] 5)).cell? ⟨q, 0, none⟩ = some (.int .i64 n) := (((Below.refl _ w).alloc (Nat.le_refl _) _).cell (p := ⟨q, 0, none⟩) hq).trans HC.out
      go_wp2
      go_loopw [3, 6] (fun t3 t6 wr => ∃ (x : Int) (ys : List Int), t6 = .int .u64 x ∧ 0 ≤ x ∧ x < 18446744073709551616 ∧ Own wr w.heap.size t3 ys ∧ ys ++ numB x.toNat = Z ∧ Below w.heap.size w wr) (fun _ t6 _ => (intOf t6).toNat)
      case atStart => exact ⟨_, [], rfl, ub.1, ub.2, HO.out, HX.out, (Below.refl _ w).alloc (Nat.le_refl _) _⟩
      case round =>
        obtain ⟨x, ys, rfl, hx0, hx1, hown, heq, hbel⟩ := hrel
        have HE : Hid (ys ++ numB x.toNat = Z) := heq
        have hyl : ys.length ≤ 10 := by have := HT.out; rw [← heq, List.length_append] at this; omega
        have hwz : w.heap.size ≤ wr.heap.size := hbel.size
        have HB : Hid (Below w.heap.size w wr) := hbel
        have HOw : Hid (Own wr w.heap.size _ ys) := hown
        clear heq hbel hown hcc
        by_cases hx : x < 128
        · have HN : Hid (ys ++ [x] = Z) := by unfold Hid; rw [← HE.out, numB_loI hx0 hx]
          go_wp2_with (at_builtin; refine wpList_append_lies _ rfl (.tmp 26) (.tmp 29) 35 rfl w.heap.size 5 i0 (.int .u8 0) 1 1 Tryz.underlying35 hi hz0 hz1 hz2 rfl (by decide) _ _ _ rfl (HOw.out.alloc _) ⟨wr.heap.size, 0, none⟩ 1 1 [.int .u8 x] rfl rfl (cell_one_new _ _ _) (one_one _) (by decide) (by unfold maxLen; omega) (by omega) (by simp; omega) (wr.heap.size + 1) (by simp) ?_; intro g cap w1 hown hgrow hat hgl)
          have O1 := own_snoc rfl hown
          have B1 : Below w.heap.size w w1 := below_app (HB.out.alloc hwz _) (HOw.out.alloc _) (by simp; omega) hgrow
          rw [HN.out] at O1
          have HO1 : Hid (Own w1 w.heap.size _ _) := O1
          have HB1 : Hid (Below w.heap.size w w1) := B1
          clear hown hgrow hat O1 B1
          go_wp2
          go_roundw
          case rel => exact Or.inr ⟨rfl, HO1.out, HB1.out⟩
          case measure => simp [intOf]
        · have HN : Hid ((ys ++ [x % 128 + 128]) ++ numB (x / 128).toNat = Z) := by unfold Hid; rw [← HE.out, numB_hiI hx, List.append_assoc]; rfl
          have hor := or128 x hx0
          go_wp2_with (at_builtin; refine wpList_append_lies _ rfl (.tmp 18) (.tmp 22) 35 rfl w.heap.size 5 i0 (.int .u8 0) 1 1 Tryz.underlying35 hi hz0 hz1 hz2 rfl (by decide) _ _ _ rfl (HOw.out.alloc _) ⟨wr.heap.size, 0, none⟩ 1 1 [.int .u8 (x % 128 + 128)] rfl rfl (cell_one_new _ _ _) (one_one _) (by decide) (by unfold maxLen; omega) (by omega) (by simp; omega) (wr.heap.size + 1) (by simp) ?_; intro g cap w1 hown hgrow hat hgl)
          have O1 := own_snoc rfl hown
          have B1 : Below w.heap.size w w1 := below_app (HB.out.alloc hwz _) (HOw.out.alloc _) (by simp; omega) hgrow
          have HO1 : Hid (Own w1 w.heap.size _ _) := O1
          have HB1 : Hid (Below w.heap.size w w1) := B1
          clear hown hgrow hat O1 B1
          go_wp2
          go_roundw
          case rel => exact ⟨x / 128, _, rfl, by omega, by omega, HO1.out, HN.out, HB1.out⟩
          case measure => simp [intOf]; omega
    · obtain ⟨a, cap, rfl, hby⟩ := hown.form
      have HO1 : Hid (Own _ w.heap.size _ Z) := hown
      have HB1 : Hid (Below w.heap.size w _) := hbel
      clear hown hbel hby
      go_wp2
      go_ret
      exact ⟨a, cap, rfl, HO1.out, HB1.out⟩

set_option maxRecDepth 10000 in
set_option maxHeartbeats 2000000 in
theorem iPutNum_any (n : Int) (w : World) :
    Calls Tryz.prog 30 #[.int .i64 n] w fun e w' => ∃ a cap, e = .returned (.slice a (numB (u64 n)).length cap) ∧ Own w' w.heap.size (.slice a (numB (u64 n)).length cap) (numB (u64 n)) ∧ Below w.heap.size w w' := by
  go_enter Tryz.func30, Tryz.ntmps30
  go_wp2_with fail
  refine (putNums_one w.heap.size 1 n _ (by simp) (by simp [go_sem])).mono ?_
  rintro e w1 ⟨a, cap, rfl, ho, hb⟩
  have HO1 : Hid (Own w1 w.heap.size _ _) := ho.mono (by simp)
  have HB1 : Hid (Below w.heap.size w w1) := ((Below.refl _ w).alloc (Nat.le_refl _) _).trans (hb.mono (by simp))
  clear ho hb
  go_wp2_with fail
  go_ret
  exact ⟨a, cap, rfl, HO1.out, HB1.out⟩

end Go.Proofs.YtngcbhbcocnbeaaGreat
namespace Go.Proofs.YtngcbhbcocnbeaaGreat
open Go.RowKit

/-- The bytes of a text. -/
def txtB (s : ByteArray) : List Int := numB (u64 (s.size : Int)) ++ bys s

set_option maxRecDepth 10000 in
set_option maxHeartbeats 2000000 in
theorem sPutText_any (s : ByteArray) (w : World) (hl : s.size ≤ 1048576) :
    Calls Tryz.prog 23 #[.string s] w fun e w' => ∃ a cap, e = .returned (.slice a (txtB s).length cap) ∧ Own w' w.heap.size (.slice a (txtB s).length cap) (txtB s) ∧ Below w.heap.size w w' := by
  have hten : (numB (u64 (s.size : Int))).length ≤ 10 := numB_ten _ (u64_lt _)
  have HBL : Hid ((bys s).length = s.size) := bys_len s
  go_enter Tryz.func23, Tryz.ntmps23
  go_wp2_with fail
  refine (sPutNum_any _ w).mono ?_
  rintro e w1 ⟨a, cap, rfl, ho, hbel⟩
  obtain ⟨g, rfl, hg1, hg2⟩ := ho.head (numB_pos _)
  have HB : Hid (Below w.heap.size w w1) := hbel
  have HO : Hid (Own w1 w.heap.size _ _) := ho
  have hz : w.heap.size ≤ w1.heap.size := hbel.size
  clear ho hbel
  go_wp2_with (at_builtin; refine wpList_app _ rfl (.tmp 5) (.tmp 6) 9 rfl w.heap.size g _ cap _ (bys s) _ _ rfl rfl rfl HO.out rfl (src_str s) (by have := HBL.out; omega) hz ?_; intro h c w2 hown hgr hat)
  have HB2 : Hid (Below w.heap.size w w2) := below_app HB.out HO.out hz hgr
  have HO2 : Hid (Own w2 w.heap.size _ _) := hown
  clear hown hgr hat
  go_wp2_with fail
  go_ret
  refine ⟨some ⟨h, 0, none⟩, c, ?_, ?_, HB2.out⟩
  · unfold txtB; rw [List.length_append]; rfl
  · unfold txtB; rw [List.length_append]; exact HO2.out

set_option maxRecDepth 10000 in
set_option maxHeartbeats 2000000 in
theorem iPutText_any (s : ByteArray) (w : World) (hl : s.size ≤ 1048576) :
    Calls Tryz.prog 68 #[.string s] w fun e w' => ∃ a cap, e = .returned (.slice a (txtB s).length cap) ∧ Own w' w.heap.size (.slice a (txtB s).length cap) (txtB s) ∧ Below w.heap.size w w' := by
  have hten : (numB (u64 (s.size : Int))).length ≤ 10 := numB_ten _ (u64_lt _)
  have HBL : Hid ((bys s).length = s.size) := bys_len s
  go_enter Tryz.func68, Tryz.ntmps68
  go_wp2_with fail
  refine (putNums_one w.heap.size 1 (s.size : Int) _ (by simp) (by simp [go_sem])).mono ?_
  rintro e w1 ⟨a, cap, rfl, ho, hbel⟩
  obtain ⟨g, rfl, hg1, hg2⟩ := ho.head (numB_pos _)
  have HB : Hid (Below w.heap.size w w1) := ((Below.refl _ w).alloc (Nat.le_refl _) _).trans (hbel.mono (by simp))
  have HO : Hid (Own w1 w.heap.size _ _) := ho.mono (by simp)
  have hz : w.heap.size ≤ w1.heap.size := HB.out.size
  clear ho hbel hg1
  go_wp2_with (at_builtin; refine wpList_app _ rfl (.tmp 6) (.tmp 7) 9 rfl w.heap.size g _ cap _ (bys s) _ _ rfl rfl rfl HO.out rfl (src_str s) (by have := HBL.out; omega) hz ?_; intro h c w2 hown hgr hat)
  have HB2 : Hid (Below w.heap.size w w2) := below_app HB.out HO.out hz hgr
  have HO2 : Hid (Own w2 w.heap.size _ _) := hown
  clear hown hgr hat
  go_wp2_with fail
  go_ret
  refine ⟨some ⟨h, 0, none⟩, c, ?_, ?_, HB2.out⟩
  · unfold txtB; rw [List.length_append]; rfl
  · unfold txtB; rw [List.length_append]; exact HO2.out

end Go.Proofs.YtngcbhbcocnbeaaGreat
namespace Go.Proofs.YtngcbhbcocnbeaaGreat
open Go.RowKit

def pfxB (p : Pf) : List Int := adrB p.s p.H.toInt p.L.toInt ++ numB (u64 p.b)
def poolB (q : Pl) : List Int := pfxB q.p ++ numB (u64 q.n)
def blockB (q : Bk) : List Int := pfxB q.p ++ txtB q.t
def leaseB (q : Ls) : List Int := [adrB q.a.s q.a.H.toInt q.a.L.toInt, txtB q.t, numsB [q.k, q.u]].flatten
def sessB (q : Ss) : List Int := [numsB [q.i, q.l], txtB q.t, numB (u64 q.u)].flatten
def manyB {α : Type} (f : α → List Int) (xs : List α) : List Int := (xs.map f).flatten
def rowsB {α : Type} (f : α → List Int) (xs : List α) : List Int := numB (u64 (xs.length : Int)) ++ manyB f xs
def partsB (ps : List Pl) (bs : List Bk) (ls : List Ls) (T N : Int) (ss : List Ss) (X C : Int) : List (List Int) :=
  [numB (u64 C), rowsB poolB ps, rowsB blockB bs, numsB [T, N], rowsB leaseB ls, numB (u64 X), rowsB sessB ss]
theorem manyB_at {α : Type} (f : α → List Int) (xs : List α) (k : Nat) (x : α) (h : xs[k]? = some x) : manyB f (xs.take (k + 1)) = manyB f (xs.take k) ++ f x := by
  unfold manyB
  rw [List.take_add_one, h]
  simp
theorem manyB_all {α : Type} (f : α → List Int) (xs : List α) (k : Nat) (h : xs.length ≤ k) : manyB f (xs.take k) = manyB f xs := by rw [List.take_of_length_le h]
theorem manyB_len {α : Type} (f : α → List Int) (B : Nat) (xs : List α) (h : ∀ x ∈ xs, (f x).length ≤ B) : (manyB f xs).length ≤ xs.length * B := by
  induction xs with
  | nil => simp [manyB]
  | cons x t ih =>
    have e : manyB f (x :: t) = f x ++ manyB f t := by unfold manyB; simp
    have h1 := h x (List.mem_cons_self ..)
    have h2 := ih (fun y hy => h y (List.mem_cons_of_mem _ hy))
    rw [e, List.length_append, List.length_cons, Nat.add_mul]; omega
theorem manyB_le {α : Type} (f : α → List Int) (B : Nat) (xs : List α) (k : Nat) (h : ∀ x ∈ xs, (f x).length ≤ B) : (manyB f (xs.take k)).length ≤ xs.length * B := by
  have h1 := manyB_len f B (xs.take k) (fun x hx => h x (List.mem_of_mem_take hx))
  have h2 : (xs.take k).length ≤ xs.length := by rw [List.length_take]; omega
  exact Nat.le_trans h1 (Nat.mul_le_mul_right _ h2)
theorem txtB_len (s : ByteArray) : (txtB s).length ≤ 10 + s.size := by unfold txtB; rw [List.length_append, bys_len]; have := numB_ten _ (u64_lt (s.size : Int)); omega
theorem pfxB_len (p : Pf) : (pfxB p).length ≤ 27 := by
  unfold pfxB; rw [List.length_append]
  have := adrB_len p.s p.H.toInt p.L.toInt
  have := numB_ten _ (u64_lt p.b)
  omega
theorem poolB_len (q : Pl) : (poolB q).length ≤ 37 := by
  unfold poolB; rw [List.length_append]
  have := pfxB_len q.p
  have := numB_ten _ (u64_lt q.n)
  omega
theorem blockB_len (q : Bk) (h : q.t.size ≤ 12) : (blockB q).length ≤ 49 := by
  unfold blockB; rw [List.length_append]
  have := pfxB_len q.p
  have := txtB_len q.t
  omega
theorem numsB_two (a b : Int) : (numsB [a, b]).length ≤ 20 := numsB_len [a, b]
theorem leaseB_len (q : Ls) (h : q.t.size ≤ 12) : (leaseB q).length ≤ 59 := by
  unfold leaseB
  have h1 := adrB_len q.a.s q.a.H.toInt q.a.L.toInt
  have h2 := txtB_len q.t
  have h3 := numsB_two q.k q.u
  simp only [List.flatten_cons, List.flatten_nil, List.length_append, List.length_nil]
  omega
theorem sessB_len (q : Ss) (h : q.t.size ≤ 200) : (sessB q).length ≤ 240 := by
  unfold sessB
  have h1 := numsB_two q.i q.l
  have h2 := txtB_len q.t
  have h3 := numB_ten _ (u64_lt q.u)
  simp only [List.flatten_cons, List.flatten_nil, List.length_append, List.length_nil]
  omega
/-- What a right state's lists are at most. -/
structure Bnd (ps : List Pl) (bs : List Bk) (ls : List Ls) (ss : List Ss) : Prop where
  p : ps.length ≤ 20
  b : bs.length ≤ 60
  l : ls.length ≤ 80
  s : ss.length ≤ 12
  tb : ∀ q ∈ bs, q.t.size ≤ 12
  tl : ∀ q ∈ ls, q.t.size ≤ 12
  ts : ∀ q ∈ ss, q.t.size ≤ 200
theorem own_12 {s : ByteArray} (h : ownB s = true) : s.size ≤ 12 := by
  unfold ownB at h
  simp only [Bool.and_eq_true, decide_eq_true_eq] at h
  exact h.1.2
theorem blocks_12 (ps : List Pl) : ∀ (bs : List Bk) (r : Option Pf), blocksI ps r bs = true → ∀ q ∈ bs, q.t.size ≤ 12
  | [], _, _, q, hq => by cases hq
  | x :: t, r, h, q, hq => by
      unfold blocksI at h
      simp only [Bool.and_eq_true] at h
      rcases List.mem_cons.1 hq with rfl | hq
      · exact own_12 h.1.1.1
      · exact blocks_12 ps t _ h.2 q hq
theorem leases_12 (T N : Int) : ∀ (ls : List Ls) (r : Option Ad), leasesF T N r ls = true → ∀ q ∈ ls, q.t.size ≤ 12
  | [], _, _, q, hq => by cases hq
  | x :: t, r, h, q, hq => by
      unfold leasesF okLs at h
      simp only [Bool.and_eq_true] at h
      rcases List.mem_cons.1 hq with rfl | hq
      · exact own_12 h.1.1.1.2
      · exact leases_12 T N t _ h.2 q hq
theorem sess_200 (N : Int) : ∀ (ss : List Ss) (p : Int), sesF N p ss = true → ∀ q ∈ ss, q.t.size ≤ 200
  | [], _, _, q, hq => by cases hq
  | x :: t, p, h, q, hq => by
      unfold sesF okSs at h
      simp only [Bool.and_eq_true, decide_eq_true_eq] at h
      rcases List.mem_cons.1 hq with rfl | hq
      · have := h.1.2.1.2.1; omega
      · exact sess_200 N t _ h.2 q hq
theorem rows_len {α : Type} (f : α → List Int) (B M : Nat) (xs : List α) (hx : xs.length ≤ M) (h : ∀ x ∈ xs, (f x).length ≤ B) : (rowsB f xs).length ≤ 10 + M * B ∧ 0 < (rowsB f xs).length := by
  unfold rowsB
  rw [List.length_append]
  have h1 := manyB_len f B xs h
  have h2 := numB_ten _ (u64_lt (xs.length : Int))
  have h3 := numB_pos (u64 (xs.length : Int))
  have h4 := Nat.mul_le_mul_right B hx
  omega
theorem parts_len {ps : List Pl} {bs : List Bk} {ls : List Ls} {ss : List Ss} (T N X C : Int) (h : Bnd ps bs ls ss) : 0 < (partsB ps bs ls T N ss X C).flatten.length ∧ (partsB ps bs ls T N ss X C).flatten.length ≤ 18000 := by
  unfold partsB
  have h1 := numB_ten _ (u64_lt C)
  have h1' := numB_pos (u64 C)
  have h2 := rows_len poolB 37 20 ps h.p (fun q _ => poolB_len q)
  have h3 := rows_len blockB 49 60 bs h.b (fun q hq => blockB_len q (h.tb q hq))
  have h4 := numsB_two T N
  have h5 := rows_len leaseB 59 80 ls h.l (fun q hq => leaseB_len q (h.tl q hq))
  have h6 := numB_ten _ (u64_lt X)
  have h7 := rows_len sessB 240 12 ss h.s (fun q hq => sessB_len q (h.ts q hq))
  simp only [List.flatten_cons, List.flatten_nil, List.length_append, List.length_nil]
  omega

end Go.Proofs.YtngcbhbcocnbeaaGreat
namespace Go.Proofs.YtngcbhbcocnbeaaGreat

theorem ready_un {ops : Array Oper} {md : Region.Mode} {listed : Array Bool} {i : Nat} (h : i ∈ Region.ready md ops listed) : listed.getD i true = false := by
  unfold Region.ready at h
  rw [List.mem_filter] at h
  have h2 := h.2
  rw [Bool.and_eq_true, Bool.not_eq_true'] at h2
  exact h2.1
theorem ready_lt {ops : Array Oper} {md : Region.Mode} {listed : Array Bool} {i : Nat} (h : i ∈ Region.ready md ops listed) : i < ops.size := by
  unfold Region.ready at h
  rw [List.mem_filter, List.mem_range] at h
  exact h.1
theorem ready_dep {ops : Array Oper} {md : Region.Mode} {listed : Array Bool} {i : Nat} (j : Nat) (h : i ∈ Region.ready md ops listed) (hd : ((ops[i]?).map fun o => o.after.any fun e => Region.binds md e && e.on == j).getD false = true) : listed.getD j false = true := by
  unfold Region.ready at h
  rw [List.mem_filter] at h
  have h2 := h.2
  rw [Bool.and_eq_true] at h2
  have h3 := h2.2
  cases ho : ops[i]? with
  | none => rw [ho] at hd; simp at hd
  | some o =>
    rw [ho] at hd h3
    simp only [Option.map_some, Option.getD_some] at hd h3
    rw [Array.any_eq_true] at hd
    obtain ⟨k, hk, hb⟩ := hd
    rw [Array.all_eq_true] at h3
    have h4 := h3 k hk
    rw [Bool.and_eq_true, beq_iff_eq] at hb
    rw [hb.1, hb.2] at h4
    simpa using h4
theorem ready_in {ops : Array Oper} {md : Region.Mode} {listed : Array Bool} {i : Nat} (hi : i < ops.size) (h : (!listed.getD i true && ((ops[i]?).map (·.after.all fun e => !Region.binds md e || listed.getD e.on false)).getD false) = true) : i ∈ Region.ready md ops listed := by
  unfold Region.ready
  rw [List.mem_filter, List.mem_range]
  exact ⟨hi, h⟩
def cntL : List Bool → Nat
  | [] => 0
  | true :: t => cntL t
  | false :: t => cntL t + 1
def cntF (l : Array Bool) : Nat := cntL l.toList
theorem cntL_set : ∀ (l : List Bool) (i : Nat), l[i]? = some false → cntL (l.set i true) + 1 = cntL l
  | [], _, h => by simp at h
  | b :: t, 0, h => by
      simp at h; subst h; rfl
  | b :: t, i + 1, h => by
      have := cntL_set t i (by simpa using h)
      cases b
      · show (cntL (t.set i true) + 1) + 1 = cntL t + 1; omega
      · exact this
theorem cntL_no : ∀ (l : List Bool) (i : Nat), l[i]? = some false → 0 < cntL l
  | [], _, h => by simp at h
  | b :: t, 0, h => by simp at h; subst h; exact Nat.succ_pos _
  | b :: t, i + 1, h => by
      have := cntL_no t i (by simpa using h)
      cases b
      · exact Nat.succ_pos _
      · exact this
theorem getD_at {l : Array Bool} {i : Nat} (h : l.getD i true = false) : l.toList[i]? = some false := by
  rw [Array.getD_eq_getD_getElem?] at h
  rw [Array.getElem?_toList]
  cases hx : l[i]? with
  | none => rw [hx] at h; simp at h
  | some b => rw [hx] at h; simp at h; rw [h]
theorem cnt_set {l : Array Bool} {i : Nat} (h : l.getD i true = false) : cntF (l.setIfInBounds i true) + 1 = cntF l := by
  unfold cntF
  rw [Array.toList_setIfInBounds]
  exact cntL_set _ _ (getD_at h)
theorem wpAnyH_inv {P : Program} {ops : Array Oper} {Q : Exit → Act → World → Prop} {md : Region.Mode} {S : World → Prop} (I : Array Bool → Act → World → Prop)
    (hstep : ∀ listed a w i, I listed a w → S w → i ∈ Region.ready md ops listed → wpOp P ops Q i (fun a' w' => S w' ∧ I (listed.setIfInBounds i true) a' w') a w)
    (hdone : ∀ listed a w, I listed a w → S w → Region.ready md ops listed = [] → Q .normal a w) :
    ∀ (fuel : Nat) (listed : Array Bool) (a : Act) (w : World), cntF listed ≤ fuel → I listed a w → S w → wpAnyH P md ops Q S fuel listed a w
  | 0, listed, a, w, hc, hI, hS => by
      have hr : Region.ready md ops listed = [] := by
        rw [List.eq_nil_iff_forall_not_mem]
        intro i hi
        have := cntL_no _ _ (getD_at (ready_un hi))
        unfold cntF at hc
        omega
      exact wpAnyH_done hr (hdone _ _ _ hI hS hr) 0
  | fuel + 1, listed, a, w, hc, hI, hS =>
      ⟨fun h0 => hdone _ _ _ hI hS h0, fun i hi => wpOp_mono (fun a' w' h => ⟨h.1, wpAnyH_inv I hstep hdone fuel _ a' w' (by have := cnt_set (ready_un hi); omega) h.2 h.1⟩) (hstep _ _ _ i hI hS hi)⟩
/-- The beginning: what is kept is said of the frame at hand. -/
theorem run_inv {P : Program} {ops : Array Oper} {Q : Exit → Act → World → Prop} {md : Region.Mode} {S : World → Prop} (J : Act → Array Bool → Act → World → Prop) {fuel : Nat} {listed : Array Bool} {A : Act} {w : World} (hc : cntF listed ≤ fuel) (hS : S w) (h0 : J A listed A w)
    (hstep : ∀ listed a w i, J A listed a w → S w → i ∈ Region.ready md ops listed → wpOp P ops Q i (fun a' w' => S w' ∧ J A (listed.setIfInBounds i true) a' w') a w)
    (hdone : ∀ listed a w, J A listed a w → S w → Region.ready md ops listed = [] → Q .normal a w) : wpAnyH P md ops Q S fuel listed A w :=
  wpAnyH_inv (J A) hstep hdone fuel listed A w hc h0 hS

end Go.Proofs.YtngcbhbcocnbeaaGreat
namespace Go.Proofs.YtngcbhbcocnbeaaGreat
open Go.RowKit

/-- A row of numbers. -/
def IntRow (w : World) (v : Value) (ns : List Int) : Prop := ∃ g c, v = .slice (some ⟨g, 0, none⟩) ns.length c ∧ g < w.heap.size ∧ ∀ j n, ns[j]? = some n → w.cell? ⟨g, j, none⟩ = some (.int .i64 n)
/-- A row of bytes. -/
def BytRow (w : World) (v : Value) (zs : List Int) : Prop := ∃ a c, v = .slice a zs.length c ∧ Byt w a zs ∧ (a = none → c = 0)
theorem IntRow.later {w w' : World} {v : Value} {ns : List Int} (h : IntRow w v ns) (hb : Below w.heap.size w w') : IntRow w' v ns := by
  obtain ⟨g, c, rfl, hg, hc⟩ := h
  exact ⟨g, c, rfl, Nat.lt_of_lt_of_le hg hb.size, fun j n hj => (hb.cell (p := ⟨g, j, none⟩) hg).trans (hc j n hj)⟩
theorem BytRow.later {w w' : World} {v : Value} {zs : List Int} (h : BytRow w v zs) (hb : Below w.heap.size w w') : BytRow w' v zs := by
  obtain ⟨a, c, rfl, hy, hc⟩ := h
  exact ⟨a, c, rfl, hy.later hb, hc⟩
theorem own_cap {w : World} {B n c : Nat} {a : Option Addr} {zs : List Int} (h : Own w B (.slice a n c) zs) (ha : a = none) : c = 0 := by
  subst ha
  rcases h.2 with ⟨hv, _⟩ | ⟨g, cap', cur, hv, _⟩
  · simp at hv; exact hv.2
  · simp at hv
theorem BytRow.own {w : World} {B c : Nat} {a : Option Addr} {zs : List Int} (h : Own w B (.slice a zs.length c) zs) : BytRow w (.slice a zs.length c) zs := ⟨a, c, rfl, h.bytA, fun e => own_cap h e⟩
theorem irow2 (w : World) (t : TypeId) (x0 x1 : Int) : IntRow (w.alloc (.cells #[.int .i64 x0, .int .i64 x1] t)) (.slice (some ⟨w.heap.size, 0, none⟩) 2 2) [x0, x1] :=
  ⟨w.heap.size, 2, rfl, by simp, fun j n hj => by
    rcases j with _ | _ | j
    · simp at hj; subst hj; simp [go_sem]
    · simp at hj; subst hj; simp [go_sem]
    · simp at hj⟩
structure PcF (k s q n : Int) (aS : Bool) (aH aL : BitVec 64) (ab b : Int) (hS : Bool) (hH hL : Int) (o : ByteArray) (t sp : Int) (Zf : List Int) (B : Nat) (b8 b9 b13 b19 b20 b23 b26 b31 b32 b33 b34 b35 : Bool) (v15 v16 v20 v26 v27 v30 v33 v38 v39 v40 v41 v2 : Value) (w : World) : Prop where
  f8 : b8 = true → IntRow w v15 [k, s, q, n]
  f9 : b9 = true → BytRow w v16 (numsB [k, s, q, n])
  f13 : b13 = true → BytRow w v20 (adrB aS aH.toInt aL.toInt)
  f19 : b19 = true → IntRow w v26 [ab, b]
  f20 : b20 = true → BytRow w v27 (numsB [ab, b])
  f23 : b23 = true → BytRow w v30 (adrB hS hH hL)
  f26 : b26 = true → BytRow w v33 (txtB o)
  f31 : b31 = true → IntRow w v38 [t, sp]
  f32 : b32 = true → BytRow w v39 (numsB [t, sp])
  f33 : b33 = true → ∃ g, v40 = .slice (some ⟨g, 0, none⟩) 6 6 ∧ g < w.heap.size ∧ Rws w g [numsB [k, s, q, n], adrB aS aH.toInt aL.toInt, numsB [ab, b], adrB hS hH hL, txtB o, numsB [t, sp]]
  f34 : b34 = true → ∃ g c, v41 = .slice (some ⟨g, 0, none⟩) Zf.length c ∧ Own w B (.slice (some ⟨g, 0, none⟩) Zf.length c) Zf
  f35 : b35 = true → b34 = true ∧ v2 = v41
theorem PcF.later {k s q n : Int} {aS : Bool} {aH aL : BitVec 64} {ab b : Int} {hS : Bool} {hH hL : Int} {o : ByteArray} {t sp : Int} {Zf : List Int} {B : Nat} {b8 b9 b13 b19 b20 b23 b26 b31 b32 b33 b34 b35 : Bool} {v15 v16 v20 v26 v27 v30 v33 v38 v39 v40 v41 v2 : Value} {w w' : World} (h : PcF k s q n aS aH aL ab b hS hH hL o t sp Zf B b8 b9 b13 b19 b20 b23 b26 b31 b32 b33 b34 b35 v15 v16 v20 v26 v27 v30 v33 v38 v39 v40 v41 v2 w) (hb : Below w.heap.size w w') : PcF k s q n aS aH aL ab b hS hH hL o t sp Zf B b8 b9 b13 b19 b20 b23 b26 b31 b32 b33 b34 b35 v15 v16 v20 v26 v27 v30 v33 v38 v39 v40 v41 v2 w' where
  f8 := fun e => (h.f8 e).later hb
  f9 := fun e => (h.f9 e).later hb
  f13 := fun e => (h.f13 e).later hb
  f19 := fun e => (h.f19 e).later hb
  f20 := fun e => (h.f20 e).later hb
  f23 := fun e => (h.f23 e).later hb
  f26 := fun e => (h.f26 e).later hb
  f31 := fun e => (h.f31 e).later hb
  f32 := fun e => (h.f32 e).later hb
  f33 := fun e => by
    obtain ⟨g, h1, h2, h3⟩ := h.f33 e
    exact ⟨g, h1, Nat.lt_of_lt_of_le h2 hb.size, h3.later h2 hb⟩
  f34 := fun e => by
    obtain ⟨g, c, h1, h2⟩ := h.f34 e
    exact ⟨g, c, h1, h2.later hb⟩
  f35 := h.f35

end Go.Proofs.YtngcbhbcocnbeaaGreat
namespace Go.Proofs.YtngcbhbcocnbeaaGreat
open Go.RowKit

theorem bx4 (w : World) (t : TypeId) (v0 v1 v2 v3 : Value) : (w.alloc (.cells #[v0, v1, v2, v3] t)).cell? ⟨w.heap.size, 0, none⟩ = some v0 ∧ (w.alloc (.cells #[v0, v1, v2, v3] t)).cell? ⟨w.heap.size, 1, none⟩ = some v1 ∧ (w.alloc (.cells #[v0, v1, v2, v3] t)).cell? ⟨w.heap.size, 2, none⟩ = some v2 ∧ (w.alloc (.cells #[v0, v1, v2, v3] t)).cell? ⟨w.heap.size, 3, none⟩ = some v3 := ⟨by simp [go_sem], by simp [go_sem], by simp [go_sem], by simp [go_sem]⟩

theorem src_own {w : World} {B c : Nat} {a : Option Addr} {zs : List Int} (h : Own w B (.slice a zs.length c) zs) : Src Tryz.prog 1 35 (.slice a zs.length c) zs.length (zs.map (Value.int .u8)) w := src_byt c h.bytA (fun e => own_cap h e)

theorem step_app2 {ops : Array Oper} {o : Oper} {a : Act} {K : Act → World → Prop} {Q : Exit → Act → World → Prop} {E : Prop} (w : World) (d : Nat) (hd : o.dst = some d) (hgd : o.guard = none) (s x : Operand) (tx : TypeId)
    (ho : o.op = .call { callee := .builtin .append, args := #[s, x], argTypes := #[35, tx] })
    (B g n cap : Nat) (zs ns : List Int) (v xv : Value) (hsv : a.eval s = v) (hv : v = .slice (some ⟨g, 0, none⟩) n cap) (hn : n = zs.length) (hown : Own w B (.slice (some ⟨g, 0, none⟩) n cap) zs)
    (hx : a.eval x = xv) (hs : Src Tryz.prog 1 tx xv ns.length (ns.map (Value.int .u8)) w) (hl : n + ns.length ≤ 1000000000) (hB : B ≤ w.heap.size)
    (h : ∀ h c w', Own w' B (.slice (some ⟨h, 0, none⟩) (n + ns.length) c) (zs ++ ns) → w.grownBy w' (some g) → (h = g ∨ h = w.heap.size) → K (a.put (some d) (.slice (some ⟨h, 0, none⟩) (n + ns.length) c)) w') :
    if Region.wanted o (yielded ops a.tmps) = true then Oper.wp Tryz.prog o a w K Q else E :=
  step_app w hgd s x tx ho B g n cap zs ns v xv hsv hv hn hown hx hs hl hB (fun b c w' h2 h3 h4 => by rw [hd]; exact h b c w' h2 h3 h4)

set_option maxRecDepth 10000 in
set_option maxHeartbeats 4000000 in
theorem sPre8_any (s : Bool) (H L b : Int) (Z : List Int) (hZ : adrB s H L ++ numB (u64 b) = Z) (w : World) :
    Calls Tryz.prog 21 #[.agg #[.bool s, .int .i64 H, .int .i64 L, .int .i64 b]] w fun e w' => ∃ g c, e = .returned (.slice (some ⟨g, 0, none⟩) Z.length c) ∧ Own w' w.heap.size (.slice (some ⟨g, 0, none⟩) Z.length c) Z ∧ Below w.heap.size w w' := by
  have HZ := hidP hZ
  have hl1 := adrB_len s H L
  have hl2 := numB_ten _ (u64_lt b)
  clear hZ
  have HA := hidP (sPutAddr_any s H L)
  have HN := hidP (sPutNum_any b)
  generalize adrB s H L = Z1 at *
  generalize numB (u64 b) = Z2 at *
  go_enter Tryz.func21, Tryz.ntmps21
  go_wp2_with fail
  obtain ⟨x0, x1, x2, x3⟩ := bx4 w 66 (.bool s) (.int .i64 H) (.int .i64 L) (.int .i64 b)
  have xB := hidP (alloc_below w (.cells #[.bool s, .int .i64 H, .int .i64 L, .int .i64 b] 66))
  have xL : w.heap.size < (w.alloc (.cells #[.bool s, .int .i64 H, .int .i64 L, .int .i64 b] 66)).heap.size := by simp
  generalize w.alloc (.cells #[.bool s, .int .i64 H, .int .i64 L, .int .i64 b] 66) = W at *
  have HSx : Hid (∀ x, Below W.heap.size W x → (x.cell? ⟨w.heap.size, 0, none⟩ = some (.bool s) ∧ x.cell? ⟨w.heap.size, 1, none⟩ = some (.int .i64 H) ∧ x.cell? ⟨w.heap.size, 2, none⟩ = some (.int .i64 L) ∧ x.cell? ⟨w.heap.size, 3, none⟩ = some (.int .i64 b) ∧ Below W.heap.size W x)) := hidP fun x h =>
    ⟨(h.cell xL).trans x0, (h.cell xL).trans x1, (h.cell xL).trans x2, (h.cell xL).trans x3, h⟩
  refine wp_region_held_drew (S := (fun x => x.cell? ⟨w.heap.size, 0, none⟩ = some (.bool s) ∧ x.cell? ⟨w.heap.size, 1, none⟩ = some (.int .i64 H) ∧ x.cell? ⟨w.heap.size, 2, none⟩ = some (.int .i64 L) ∧ x.cell? ⟨w.heap.size, 3, none⟩ = some (.int .i64 b) ∧ Below W.heap.size W x)) (by kernel_rfl) ?_ (fun hHeld => ?_)
  · try dsimp only
    exact HSx.out _ (Below.refl _ _).drew
  refine tk 0 3 rfl ?_; simp only [pa]
  refine tk 1 4 rfl ?_; simp only [pa]
  refine tk 3 6 rfl ?_; simp only [pa]
  refine tk 4 7 rfl ?_; simp only [pa]
  refine wpAnyH_ready (rs := [2]) (by kernel_rfl) (by simp) ?_
  refine AllReadyH.cons rfl (fun K hK => ?_) AllReadyH.nil
  go_simp
  go_wp2_with (first | (go_at_call 24; refine (HA.out _).mono ?_; rintro e w2 ⟨g2, c2, rfl, o2, b2⟩))
  have k2 : Below W.heap.size W w2 := (hHeld.2.2.2.2).trans (b2.mono (hHeld.2.2.2.2).size)
  have O2 := hidP (show Own w2 W.heap.size _ _ from o2)
  clear o2
  refine hK.out _ _ ?_ (fun hHeld => ?_)
  · try dsimp only
    exact HSx.out _ k2
  clear hK K
  refine wpAnyH_ready (rs := [5]) (by kernel_rfl) (by simp) ?_
  refine AllReadyH.cons rfl (fun K hK => ?_) AllReadyH.nil
  go_simp
  go_wp2_with (first | (go_at_call 22; refine (HN.out _).mono ?_; rintro e w3 ⟨a3, c3, rfl, o3, b3⟩))
  have k3 : Below W.heap.size W w3 := k2.trans (b3.mono k2.size)
  have O3 := hidP o3
  have O2' := hidP (O2.out.later b3)
  clear o3
  refine hK.out _ _ ?_ (fun hHeld => ?_)
  · try dsimp only
    exact HSx.out _ k3
  clear hK K
  refine wpAnyH_ready (rs := [6]) (by kernel_rfl) (by simp) ?_
  refine AllReadyH.cons rfl (fun K hK => ?_) AllReadyH.nil
  refine step_app2 _ 9 rfl rfl (.tmp 5) (.tmp 8) 35 rfl (W.heap.size) g2 (Z1.length) c2 (Z1) (Z2) _ _ rfl rfl rfl O2'.out rfl (src_own O3.out) (by omega) k3.size ?_
  intro g4 c4 w4 o4 r4 h4
  have k4 : Below W.heap.size W w4 := below_app k3 O2'.out k3.size r4
  have O4 := hidP o4
  clear o4 r4 h4
  refine hK.out _ _ ?_ (fun hHeld => ?_)
  · try dsimp only
    exact HSx.out _ k4
  clear hK K
  simp only [pa]
  refine tk 7 2 rfl ?_; simp only [pa]
  have HE := hidP k4
  refine wpAnyH_done (by kernel_rfl) ?_ _
  clear hHeld
  go_wp2_with fail
  go_ret
  refine ⟨g4, c4, ?_, ?_, xB.out.trans (HE.out.mono xB.out.size)⟩
  · rw [← HZ.out, List.length_append]; rfl
  · rw [← HZ.out, List.length_append]; exact O4.out.mono xB.out.size

end Go.Proofs.YtngcbhbcocnbeaaGreat
namespace Go.Proofs.YtngcbhbcocnbeaaGreat
open Go.RowKit

theorem bxP4 (w : World) (t : TypeId) (v0 v1 v2 v3 : Value) : (w.alloc (.cells #[v0, v1, v2, v3] t)).cell? ⟨w.heap.size, 0, none⟩ = some v0 ∧ (w.alloc (.cells #[v0, v1, v2, v3] t)).cell? ⟨w.heap.size, 1, none⟩ = some v1 ∧ (w.alloc (.cells #[v0, v1, v2, v3] t)).cell? ⟨w.heap.size, 2, none⟩ = some v2 ∧ (w.alloc (.cells #[v0, v1, v2, v3] t)).cell? ⟨w.heap.size, 3, none⟩ = some v3 := ⟨by simp [go_sem], by simp [go_sem], by simp [go_sem], by simp [go_sem]⟩
theorem bxP5 (w : World) (t : TypeId) (v0 v1 v2 v3 v4 : Value) : (w.alloc (.cells #[v0, v1, v2, v3, v4] t)).cell? ⟨w.heap.size, 0, none⟩ = some v0 ∧ (w.alloc (.cells #[v0, v1, v2, v3, v4] t)).cell? ⟨w.heap.size, 1, none⟩ = some v1 ∧ (w.alloc (.cells #[v0, v1, v2, v3, v4] t)).cell? ⟨w.heap.size, 2, none⟩ = some v2 ∧ (w.alloc (.cells #[v0, v1, v2, v3, v4] t)).cell? ⟨w.heap.size, 3, none⟩ = some v3 ∧ (w.alloc (.cells #[v0, v1, v2, v3, v4] t)).cell? ⟨w.heap.size, 4, none⟩ = some v4 := ⟨by simp [go_sem], by simp [go_sem], by simp [go_sem], by simp [go_sem], by simp [go_sem]⟩
theorem bxP6 (w : World) (t : TypeId) (v0 v1 v2 v3 v4 v5 : Value) : (w.alloc (.cells #[v0, v1, v2, v3, v4, v5] t)).cell? ⟨w.heap.size, 0, none⟩ = some v0 ∧ (w.alloc (.cells #[v0, v1, v2, v3, v4, v5] t)).cell? ⟨w.heap.size, 1, none⟩ = some v1 ∧ (w.alloc (.cells #[v0, v1, v2, v3, v4, v5] t)).cell? ⟨w.heap.size, 2, none⟩ = some v2 ∧ (w.alloc (.cells #[v0, v1, v2, v3, v4, v5] t)).cell? ⟨w.heap.size, 3, none⟩ = some v3 ∧ (w.alloc (.cells #[v0, v1, v2, v3, v4, v5] t)).cell? ⟨w.heap.size, 4, none⟩ = some v4 ∧ (w.alloc (.cells #[v0, v1, v2, v3, v4, v5] t)).cell? ⟨w.heap.size, 5, none⟩ = some v5 := ⟨by simp [go_sem], by simp [go_sem], by simp [go_sem], by simp [go_sem], by simp [go_sem], by simp [go_sem]⟩
set_option maxRecDepth 10000 in
set_option maxHeartbeats 4000000 in
theorem putPrefix_any (p : Pf) (w : World) :
    Calls Tryz.prog 67 #[.agg #[.bool p.s, .int .i64 p.H.toInt, .int .i64 p.L.toInt, .int .i64 p.b]] w fun e w' => ∃ g c, e = .returned (.slice (some ⟨g, 0, none⟩) (pfxB p).length c) ∧ Own w' w.heap.size (.slice (some ⟨g, 0, none⟩) (pfxB p).length c) (pfxB p) ∧ Below w.heap.size w w' := by
  have HZ : Hid (adrB p.s p.H.toInt p.L.toInt ++ numB (u64 p.b) = pfxB p) := hidP rfl
  have hl1 := adrB_len p.s p.H.toInt p.L.toInt
  have hl2 := numB_ten _ (u64_lt p.b)
  have HA := hidP (fun W => iPutAddr_any p.s p.H.toInt p.L.toInt W)
  have HN := hidP (fun W => iPutNum_any p.b W)
  generalize pfxB p = Z at *
  generalize adrB p.s p.H.toInt p.L.toInt = Z1 at *
  generalize numB (u64 p.b) = Z2 at *
  go_enter Tryz.func67, Tryz.ntmps67
  go_wp2_with fail
  obtain ⟨x0, x1, x2, x3⟩ := bxP4 w 66 (.bool p.s) (.int .i64 p.H.toInt) (.int .i64 p.L.toInt) (.int .i64 p.b)
  have xB := hidP (alloc_below w (.cells #[.bool p.s, .int .i64 p.H.toInt, .int .i64 p.L.toInt, .int .i64 p.b] 66))
  have xL : w.heap.size < (w.alloc (.cells #[.bool p.s, .int .i64 p.H.toInt, .int .i64 p.L.toInt, .int .i64 p.b] 66)).heap.size := by simp
  generalize w.alloc (.cells #[.bool p.s, .int .i64 p.H.toInt, .int .i64 p.L.toInt, .int .i64 p.b] 66) = W at *
  have HSx : Hid (∀ x, Below W.heap.size W x → (x.cell? ⟨w.heap.size, 0, none⟩ = some (.bool p.s) ∧ x.cell? ⟨w.heap.size, 1, none⟩ = some (.int .i64 p.H.toInt) ∧ x.cell? ⟨w.heap.size, 2, none⟩ = some (.int .i64 p.L.toInt) ∧ x.cell? ⟨w.heap.size, 3, none⟩ = some (.int .i64 p.b) ∧ Below W.heap.size W x)) := hidP fun x h =>
    ⟨(h.cell xL).trans x0, (h.cell xL).trans x1, (h.cell xL).trans x2, (h.cell xL).trans x3, h⟩
  refine wp_region_held_drew (S := (fun x => x.cell? ⟨w.heap.size, 0, none⟩ = some (.bool p.s) ∧ x.cell? ⟨w.heap.size, 1, none⟩ = some (.int .i64 p.H.toInt) ∧ x.cell? ⟨w.heap.size, 2, none⟩ = some (.int .i64 p.L.toInt) ∧ x.cell? ⟨w.heap.size, 3, none⟩ = some (.int .i64 p.b) ∧ Below W.heap.size W x)) (by kernel_rfl) ?_ (fun hHeld => ?_)
  · try dsimp only
    exact HSx.out _ (Below.refl _ _).drew
  refine tk 0 3 rfl ?_; simp only [pa]
  refine tk 1 4 rfl ?_; simp only [pa]
  refine tk 3 6 rfl ?_; simp only [pa]
  refine tk 4 7 rfl ?_; simp only [pa]
  refine wpAnyH_ready (rs := [2]) (by kernel_rfl) (by simp) ?_
  refine AllReadyH.cons rfl (fun K hK => ?_) AllReadyH.nil
  go_simp
  go_wp2_with (first | (go_at_call 69; refine (HA.out _).mono ?_; rintro e w2 ⟨g2, c2, rfl, o2, b2⟩))
  have k2 : Below W.heap.size W w2 := (hHeld.2.2.2.2).trans (b2.mono (hHeld.2.2.2.2).size)
  have O2 := hidP (show Own w2 W.heap.size _ _ from o2)
  clear o2
  refine hK.out _ _ ?_ (fun hHeld => ?_)
  · try dsimp only
    exact HSx.out _ k2
  clear hK K
  refine wpAnyH_ready (rs := [5]) (by kernel_rfl) (by simp) ?_
  refine AllReadyH.cons rfl (fun K hK => ?_) AllReadyH.nil
  go_simp
  go_wp2_with (first | (go_at_call 30; refine (HN.out _).mono ?_; rintro e w3 ⟨a3, c3, rfl, o3, b3⟩))
  have k3 : Below W.heap.size W w3 := k2.trans (b3.mono k2.size)
  have O3 := hidP o3
  have O2' := hidP (O2.out.later b3)
  clear o3
  refine hK.out _ _ ?_ (fun hHeld => ?_)
  · try dsimp only
    exact HSx.out _ k3
  clear hK K
  refine wpAnyH_ready (rs := [6]) (by kernel_rfl) (by simp) ?_
  refine AllReadyH.cons rfl (fun K hK => ?_) AllReadyH.nil
  refine step_app2 _ 9 rfl rfl (.tmp 5) (.tmp 8) 35 rfl (W.heap.size) g2 (Z1.length) c2 (Z1) (Z2) _ _ rfl rfl rfl O2'.out rfl (src_own O3.out) (by omega) k3.size ?_
  intro g4 c4 w4 o4 r4 h4
  have k4 : Below W.heap.size W w4 := below_app k3 O2'.out k3.size r4
  have O4 := hidP o4
  clear o4 r4 h4
  refine hK.out _ _ ?_ (fun hHeld => ?_)
  · try dsimp only
    exact HSx.out _ k4
  clear hK K
  simp only [pa]
  refine tk 7 2 rfl ?_; simp only [pa]
  have HE := hidP k4
  refine wpAnyH_done (by kernel_rfl) ?_ _
  clear hHeld
  go_wp2_with fail
  go_ret
  refine ⟨g4, c4, ?_, ?_, xB.out.trans (HE.out.mono xB.out.size)⟩
  · rw [← HZ.out, List.length_append]; rfl
  · rw [← HZ.out, List.length_append]; exact O4.out.mono xB.out.size

set_option maxRecDepth 10000 in
set_option maxHeartbeats 4000000 in
theorem putPool_any (q : Pl) (w : World) :
    Calls Tryz.prog 32 #[.agg #[.bool q.p.s, .int .i64 q.p.H.toInt, .int .i64 q.p.L.toInt, .int .i64 q.p.b, .int .i64 q.n]] w fun e w' => ∃ g c, e = .returned (.slice (some ⟨g, 0, none⟩) (poolB q).length c) ∧ Own w' w.heap.size (.slice (some ⟨g, 0, none⟩) (poolB q).length c) (poolB q) ∧ Below w.heap.size w w' := by
  have HZ : Hid (pfxB q.p ++ numB (u64 q.n) = poolB q) := hidP rfl
  have hl1 := pfxB_len q.p
  have hl2 := numB_ten _ (u64_lt q.n)
  have HA := hidP (fun W => putPrefix_any q.p W)
  have HN := hidP (fun W => iPutNum_any q.n W)
  generalize poolB q = Z at *
  generalize pfxB q.p = Z1 at *
  generalize numB (u64 q.n) = Z2 at *
  go_enter Tryz.func32, Tryz.ntmps32
  go_wp2_with fail
  obtain ⟨x0, x1, x2, x3, x4⟩ := bxP5 w 68 (.bool q.p.s) (.int .i64 q.p.H.toInt) (.int .i64 q.p.L.toInt) (.int .i64 q.p.b) (.int .i64 q.n)
  have xB := hidP (alloc_below w (.cells #[.bool q.p.s, .int .i64 q.p.H.toInt, .int .i64 q.p.L.toInt, .int .i64 q.p.b, .int .i64 q.n] 68))
  have xL : w.heap.size < (w.alloc (.cells #[.bool q.p.s, .int .i64 q.p.H.toInt, .int .i64 q.p.L.toInt, .int .i64 q.p.b, .int .i64 q.n] 68)).heap.size := by simp
  generalize w.alloc (.cells #[.bool q.p.s, .int .i64 q.p.H.toInt, .int .i64 q.p.L.toInt, .int .i64 q.p.b, .int .i64 q.n] 68) = W at *
  have HSx : Hid (∀ x, Below W.heap.size W x → (x.cell? ⟨w.heap.size, 0, none⟩ = some (.bool q.p.s) ∧ x.cell? ⟨w.heap.size, 1, none⟩ = some (.int .i64 q.p.H.toInt) ∧ x.cell? ⟨w.heap.size, 2, none⟩ = some (.int .i64 q.p.L.toInt) ∧ x.cell? ⟨w.heap.size, 3, none⟩ = some (.int .i64 q.p.b) ∧ x.cell? ⟨w.heap.size, 4, none⟩ = some (.int .i64 q.n) ∧ Below W.heap.size W x)) := hidP fun x h =>
    ⟨(h.cell xL).trans x0, (h.cell xL).trans x1, (h.cell xL).trans x2, (h.cell xL).trans x3, (h.cell xL).trans x4, h⟩
  refine wp_region_held_drew (S := (fun x => x.cell? ⟨w.heap.size, 0, none⟩ = some (.bool q.p.s) ∧ x.cell? ⟨w.heap.size, 1, none⟩ = some (.int .i64 q.p.H.toInt) ∧ x.cell? ⟨w.heap.size, 2, none⟩ = some (.int .i64 q.p.L.toInt) ∧ x.cell? ⟨w.heap.size, 3, none⟩ = some (.int .i64 q.p.b) ∧ x.cell? ⟨w.heap.size, 4, none⟩ = some (.int .i64 q.n) ∧ Below W.heap.size W x)) (by kernel_rfl) ?_ (fun hHeld => ?_)
  · try dsimp only
    exact HSx.out _ (Below.refl _ _).drew
  refine tk 0 3 rfl ?_; simp only [pa]
  refine tk 1 4 rfl ?_; simp only [pa]
  refine tk 3 6 rfl ?_; simp only [pa]
  refine tk 4 7 rfl ?_; simp only [pa]
  refine wpAnyH_ready (rs := [2]) (by kernel_rfl) (by simp) ?_
  refine AllReadyH.cons rfl (fun K hK => ?_) AllReadyH.nil
  go_simp
  go_wp2_with (first | (go_at_call 67; refine (HA.out _).mono ?_; rintro e w2 ⟨g2, c2, rfl, o2, b2⟩))
  have k2 : Below W.heap.size W w2 := (hHeld.2.2.2.2.2).trans (b2.mono (hHeld.2.2.2.2.2).size)
  have O2 := hidP (show Own w2 W.heap.size _ _ from o2)
  clear o2
  refine hK.out _ _ ?_ (fun hHeld => ?_)
  · try dsimp only
    exact HSx.out _ k2
  clear hK K
  refine wpAnyH_ready (rs := [5]) (by kernel_rfl) (by simp) ?_
  refine AllReadyH.cons rfl (fun K hK => ?_) AllReadyH.nil
  go_simp
  go_wp2_with (first | (go_at_call 30; refine (HN.out _).mono ?_; rintro e w3 ⟨a3, c3, rfl, o3, b3⟩))
  have k3 : Below W.heap.size W w3 := k2.trans (b3.mono k2.size)
  have O3 := hidP o3
  have O2' := hidP (O2.out.later b3)
  clear o3
  refine hK.out _ _ ?_ (fun hHeld => ?_)
  · try dsimp only
    exact HSx.out _ k3
  clear hK K
  refine wpAnyH_ready (rs := [6]) (by kernel_rfl) (by simp) ?_
  refine AllReadyH.cons rfl (fun K hK => ?_) AllReadyH.nil
  refine step_app2 _ 9 rfl rfl (.tmp 5) (.tmp 8) 35 rfl (W.heap.size) g2 (Z1.length) c2 (Z1) (Z2) _ _ rfl rfl rfl O2'.out rfl (src_own O3.out) (by omega) k3.size ?_
  intro g4 c4 w4 o4 r4 h4
  have k4 : Below W.heap.size W w4 := below_app k3 O2'.out k3.size r4
  have O4 := hidP o4
  clear o4 r4 h4
  refine hK.out _ _ ?_ (fun hHeld => ?_)
  · try dsimp only
    exact HSx.out _ k4
  clear hK K
  simp only [pa]
  refine tk 7 2 rfl ?_; simp only [pa]
  have HE := hidP k4
  refine wpAnyH_done (by kernel_rfl) ?_ _
  clear hHeld
  go_wp2_with fail
  go_ret
  refine ⟨g4, c4, ?_, ?_, xB.out.trans (HE.out.mono xB.out.size)⟩
  · rw [← HZ.out, List.length_append]; rfl
  · rw [← HZ.out, List.length_append]; exact O4.out.mono xB.out.size

set_option maxRecDepth 10000 in
set_option maxHeartbeats 4000000 in
theorem putBlock_any (q : Bk) (ht : q.t.size ≤ 1048576) (w : World) :
    Calls Tryz.prog 34 #[.agg #[.bool q.p.s, .int .i64 q.p.H.toInt, .int .i64 q.p.L.toInt, .int .i64 q.p.b, .string q.t]] w fun e w' => ∃ g c, e = .returned (.slice (some ⟨g, 0, none⟩) (blockB q).length c) ∧ Own w' w.heap.size (.slice (some ⟨g, 0, none⟩) (blockB q).length c) (blockB q) ∧ Below w.heap.size w w' := by
  have HZ : Hid (pfxB q.p ++ txtB q.t = blockB q) := hidP rfl
  have hl1 := pfxB_len q.p
  have hl2 := txtB_len q.t
  have HA := hidP (fun W => putPrefix_any q.p W)
  have HN := hidP (fun W => (fun W => iPutText_any q.t W ht) W)
  generalize blockB q = Z at *
  generalize pfxB q.p = Z1 at *
  generalize txtB q.t = Z2 at *
  go_enter Tryz.func34, Tryz.ntmps34
  go_wp2_with fail
  obtain ⟨x0, x1, x2, x3, x4⟩ := bxP5 w 71 (.bool q.p.s) (.int .i64 q.p.H.toInt) (.int .i64 q.p.L.toInt) (.int .i64 q.p.b) (.string q.t)
  have xB := hidP (alloc_below w (.cells #[.bool q.p.s, .int .i64 q.p.H.toInt, .int .i64 q.p.L.toInt, .int .i64 q.p.b, .string q.t] 71))
  have xL : w.heap.size < (w.alloc (.cells #[.bool q.p.s, .int .i64 q.p.H.toInt, .int .i64 q.p.L.toInt, .int .i64 q.p.b, .string q.t] 71)).heap.size := by simp
  generalize w.alloc (.cells #[.bool q.p.s, .int .i64 q.p.H.toInt, .int .i64 q.p.L.toInt, .int .i64 q.p.b, .string q.t] 71) = W at *
  have HSx : Hid (∀ x, Below W.heap.size W x → (x.cell? ⟨w.heap.size, 0, none⟩ = some (.bool q.p.s) ∧ x.cell? ⟨w.heap.size, 1, none⟩ = some (.int .i64 q.p.H.toInt) ∧ x.cell? ⟨w.heap.size, 2, none⟩ = some (.int .i64 q.p.L.toInt) ∧ x.cell? ⟨w.heap.size, 3, none⟩ = some (.int .i64 q.p.b) ∧ x.cell? ⟨w.heap.size, 4, none⟩ = some (.string q.t) ∧ Below W.heap.size W x)) := hidP fun x h =>
    ⟨(h.cell xL).trans x0, (h.cell xL).trans x1, (h.cell xL).trans x2, (h.cell xL).trans x3, (h.cell xL).trans x4, h⟩
  refine wp_region_held_drew (S := (fun x => x.cell? ⟨w.heap.size, 0, none⟩ = some (.bool q.p.s) ∧ x.cell? ⟨w.heap.size, 1, none⟩ = some (.int .i64 q.p.H.toInt) ∧ x.cell? ⟨w.heap.size, 2, none⟩ = some (.int .i64 q.p.L.toInt) ∧ x.cell? ⟨w.heap.size, 3, none⟩ = some (.int .i64 q.p.b) ∧ x.cell? ⟨w.heap.size, 4, none⟩ = some (.string q.t) ∧ Below W.heap.size W x)) (by kernel_rfl) ?_ (fun hHeld => ?_)
  · try dsimp only
    exact HSx.out _ (Below.refl _ _).drew
  refine tk 0 3 rfl ?_; simp only [pa]
  refine tk 1 4 rfl ?_; simp only [pa]
  refine tk 3 6 rfl ?_; simp only [pa]
  refine tk 4 7 rfl ?_; simp only [pa]
  refine wpAnyH_ready (rs := [2]) (by kernel_rfl) (by simp) ?_
  refine AllReadyH.cons rfl (fun K hK => ?_) AllReadyH.nil
  go_simp
  go_wp2_with (first | (go_at_call 67; refine (HA.out _).mono ?_; rintro e w2 ⟨g2, c2, rfl, o2, b2⟩))
  have k2 : Below W.heap.size W w2 := (hHeld.2.2.2.2.2).trans (b2.mono (hHeld.2.2.2.2.2).size)
  have O2 := hidP (show Own w2 W.heap.size _ _ from o2)
  clear o2
  refine hK.out _ _ ?_ (fun hHeld => ?_)
  · try dsimp only
    exact HSx.out _ k2
  clear hK K
  refine wpAnyH_ready (rs := [5]) (by kernel_rfl) (by simp) ?_
  refine AllReadyH.cons rfl (fun K hK => ?_) AllReadyH.nil
  go_simp
  go_wp2_with (first | (go_at_call 68; refine (HN.out _).mono ?_; rintro e w3 ⟨a3, c3, rfl, o3, b3⟩))
  have k3 : Below W.heap.size W w3 := k2.trans (b3.mono k2.size)
  have O3 := hidP o3
  have O2' := hidP (O2.out.later b3)
  clear o3
  refine hK.out _ _ ?_ (fun hHeld => ?_)
  · try dsimp only
    exact HSx.out _ k3
  clear hK K
  refine wpAnyH_ready (rs := [6]) (by kernel_rfl) (by simp) ?_
  refine AllReadyH.cons rfl (fun K hK => ?_) AllReadyH.nil
  refine step_app2 _ 9 rfl rfl (.tmp 5) (.tmp 8) 35 rfl (W.heap.size) g2 (Z1.length) c2 (Z1) (Z2) _ _ rfl rfl rfl O2'.out rfl (src_own O3.out) (by omega) k3.size ?_
  intro g4 c4 w4 o4 r4 h4
  have k4 : Below W.heap.size W w4 := below_app k3 O2'.out k3.size r4
  have O4 := hidP o4
  clear o4 r4 h4
  refine hK.out _ _ ?_ (fun hHeld => ?_)
  · try dsimp only
    exact HSx.out _ k4
  clear hK K
  simp only [pa]
  refine tk 7 2 rfl ?_; simp only [pa]
  have HE := hidP k4
  refine wpAnyH_done (by kernel_rfl) ?_ _
  clear hHeld
  go_wp2_with fail
  go_ret
  refine ⟨g4, c4, ?_, ?_, xB.out.trans (HE.out.mono xB.out.size)⟩
  · rw [← HZ.out, List.length_append]; rfl
  · rw [← HZ.out, List.length_append]; exact O4.out.mono xB.out.size

structure LeF (I10 Z2 Z5 Z11 Zf : List Int) (B : Nat) (b2 b5 b10 b11 b12 b13 b14 : Bool) (v5 v8 v13 v14 v15 v16 v2 : Value) (w : World) : Prop where
  f2 : b2 = true → BytRow w v5 Z2
  f5 : b5 = true → BytRow w v8 Z5
  f10 : b10 = true → IntRow w v13 I10
  f11 : b11 = true → BytRow w v14 Z11
  f12 : b12 = true → ∃ g, v15 = .slice (some ⟨g, 0, none⟩) 3 3 ∧ g < w.heap.size ∧ Rws w g [Z2, Z5, Z11]
  f13 : b13 = true → ∃ g c, v16 = .slice (some ⟨g, 0, none⟩) Zf.length c ∧ Own w B (.slice (some ⟨g, 0, none⟩) Zf.length c) Zf
  f14 : b14 = true → b13 = true ∧ v2 = v16
theorem LeF.later {I10 Z2 Z5 Z11 Zf : List Int} {B : Nat} {b2 b5 b10 b11 b12 b13 b14 : Bool} {v5 v8 v13 v14 v15 v16 v2 : Value} {w w' : World} (h : LeF I10 Z2 Z5 Z11 Zf B b2 b5 b10 b11 b12 b13 b14 v5 v8 v13 v14 v15 v16 v2 w) (hb : Below w.heap.size w w') : LeF I10 Z2 Z5 Z11 Zf B b2 b5 b10 b11 b12 b13 b14 v5 v8 v13 v14 v15 v16 v2 w' where
  f2 := fun e => (h.f2 e).later hb
  f5 := fun e => (h.f5 e).later hb
  f10 := fun e => (h.f10 e).later hb
  f11 := fun e => (h.f11 e).later hb
  f12 := fun e => by
    obtain ⟨g, h1, h2, h3⟩ := h.f12 e
    exact ⟨g, h1, Nat.lt_of_lt_of_le h2 hb.size, h3.later h2 hb⟩
  f13 := fun e => by
    obtain ⟨g, c, h1, h2⟩ := h.f13 e
    exact ⟨g, c, h1, h2.later hb⟩
  f14 := h.f14
set_option maxRecDepth 20000 in
set_option maxHeartbeats 8000000 in
theorem putLease_any (q : Ls) (ht : q.t.size ≤ 1048576) (w : World) :
    Calls Tryz.prog 37 #[.agg #[.bool q.a.s, .int .i64 q.a.H.toInt, .int .i64 q.a.L.toInt, .string q.t, .int .i64 q.k, .int .i64 q.u]] w fun e w' => ∃ g c, e = .returned (.slice (some ⟨g, 0, none⟩) (leaseB q).length c) ∧ Own w' w.heap.size (.slice (some ⟨g, 0, none⟩) (leaseB q).length c) (leaseB q) ∧ Below w.heap.size w w' := by
  have HZf : Hid ([adrB q.a.s q.a.H.toInt q.a.L.toInt, txtB q.t, numsB [q.k, q.u]].flatten = leaseB q) := hidP rfl
  have HZ : Hid (0 < ([adrB q.a.s q.a.H.toInt q.a.L.toInt, txtB q.t, numsB [q.k, q.u]].flatten).length ∧ ([adrB q.a.s q.a.H.toInt q.a.L.toInt, txtB q.t, numsB [q.k, q.u]].flatten).length ≤ 2000000) := hidP (by
    have h1 := adrB_len q.a.s q.a.H.toInt q.a.L.toInt
    have h2 := txtB_len q.t
    have h2' : 0 < (txtB q.t).length := by unfold txtB; rw [List.length_append]; have := numB_pos (u64 (q.t.size : Int)); omega
    have h3 := numsB_two q.k q.u
    simp only [List.flatten_cons, List.flatten_nil, List.length_append, List.length_nil]
    omega)
  have HA := hidP (iPutAddr_any q.a.s q.a.H.toInt q.a.L.toInt)
  have HT := hidP (fun W => iPutText_any q.t W ht)
  generalize leaseB q = Zf at *
  go_enter Tryz.func37, Tryz.ntmps37
  go_wp2_with fail
  obtain ⟨x0, x1, x2, x3, x4, x5⟩ := bxP6 w 74 (.bool q.a.s) (.int .i64 q.a.H.toInt) (.int .i64 q.a.L.toInt) (.string q.t) (.int .i64 q.k) (.int .i64 q.u)
  have xB := hidP (alloc_below w (.cells #[.bool q.a.s, .int .i64 q.a.H.toInt, .int .i64 q.a.L.toInt, .string q.t, .int .i64 q.k, .int .i64 q.u] 74))
  have xL : w.heap.size < (w.alloc (.cells #[.bool q.a.s, .int .i64 q.a.H.toInt, .int .i64 q.a.L.toInt, .string q.t, .int .i64 q.k, .int .i64 q.u] 74)).heap.size := by simp
  generalize w.alloc (.cells #[.bool q.a.s, .int .i64 q.a.H.toInt, .int .i64 q.a.L.toInt, .string q.t, .int .i64 q.k, .int .i64 q.u] 74) = W at *
  have HW := xB
  clear xB
  have HSx : Hid (∀ x, Below W.heap.size W x → (x.cell? ⟨w.heap.size, 0, none⟩ = some (.bool q.a.s) ∧ x.cell? ⟨w.heap.size, 1, none⟩ = some (.int .i64 q.a.H.toInt) ∧ x.cell? ⟨w.heap.size, 2, none⟩ = some (.int .i64 q.a.L.toInt) ∧ x.cell? ⟨w.heap.size, 3, none⟩ = some (.string q.t) ∧ x.cell? ⟨w.heap.size, 4, none⟩ = some (.int .i64 q.k) ∧ x.cell? ⟨w.heap.size, 5, none⟩ = some (.int .i64 q.u) ∧ Below W.heap.size W x)) := hidP fun x h =>
    ⟨(h.cell xL).trans x0, (h.cell xL).trans x1, (h.cell xL).trans x2, (h.cell xL).trans x3, (h.cell xL).trans x4, (h.cell xL).trans x5, h⟩
  refine wp_region_held_drew (S := (fun x => x.cell? ⟨w.heap.size, 0, none⟩ = some (.bool q.a.s) ∧ x.cell? ⟨w.heap.size, 1, none⟩ = some (.int .i64 q.a.H.toInt) ∧ x.cell? ⟨w.heap.size, 2, none⟩ = some (.int .i64 q.a.L.toInt) ∧ x.cell? ⟨w.heap.size, 3, none⟩ = some (.string q.t) ∧ x.cell? ⟨w.heap.size, 4, none⟩ = some (.int .i64 q.k) ∧ x.cell? ⟨w.heap.size, 5, none⟩ = some (.int .i64 q.u) ∧ Below W.heap.size W x)) (by kernel_rfl) ?_ (fun hHeld => ?_)
  · try dsimp only
    exact HSx.out _ (Below.refl _ _).drew
  refine tk 0 3 rfl ?_; simp only [pa]
  refine tk 1 4 rfl ?_; simp only [pa]
  refine tk 3 6 rfl ?_; simp only [pa]
  refine tk 4 7 rfl ?_; simp only [pa]
  refine tk 6 9 rfl ?_; simp only [pa]
  refine tk 7 10 rfl ?_; simp only [pa]
  refine tk 8 11 rfl ?_; simp only [pa]
  refine tk 9 12 rfl ?_; simp only [pa]
  have hWB : w.heap.size ≤ W.heap.size := HW.out.size
  clear x0 x1 x2 x3 x4 x5
  refine run_inv (fun A listed a x => ∃ (b2 b5 b10 b11 b12 b13 b14 : Bool) (v5 v8 v13 v14 v15 v16 v2 : Value), listed = #[true, true, b2, true, true, b5, true, true, true, true, b10, b11, b12, b13, b14] ∧ a = (((((((A.put (some 5) v5).put (some 8) v8).put (some 13) v13).put (some 14) v14).put (some 15) v15).put (some 16) v16).put (some 2) v2) ∧ LeF [q.k, q.u] (adrB q.a.s q.a.H.toInt q.a.L.toInt) (txtB q.t) (numsB [q.k, q.u]) Zf W.heap.size b2 b5 b10 b11 b12 b13 b14 v5 v8 v13 v14 v15 v16 v2 x) (by decide) hHeld ?_ ?_ ?_
  · refine ⟨false, false, false, false, false, false, false, undef, undef, undef, undef, undef, undef, .slice none 0 0, rfl, by simp only [pa], ?_⟩
    exact { f2 := (fun e => by cases e), f5 := (fun e => by cases e), f10 := (fun e => by cases e), f11 := (fun e => by cases e), f12 := (fun e => by cases e), f13 := (fun e => by cases e), f14 := (fun e => by cases e) }
  · rintro listed a x i ⟨b2, b5, b10, b11, b12, b13, b14, v5, v8, v13, v14, v15, v16, v2, rfl, rfl, hF⟩ hHeld hi
    have HF := hidP hF
    have hun := ready_un hi
    have hlt := ready_lt hi
    have hSB := hidP (hHeld.2.2.2.2.2.2)
    clear hF
    match i, hlt with
    | 0, _ => exact absurd hun (by simp)
    | 1, _ => exact absurd hun (by simp)
    | 2, _ =>
      have e2 : b2 = false := hun
      subst e2
      refine wpOp_step rfl (fun K hK0 => ?_)
      have hK := (show Shut _ from hK0)
      clear hK0
      simp only [pa]
      go_simp
      go_wp2_with (first | (go_at_call 69; refine (HA.out _).mono ?_; rintro e x2 ⟨a2, c2, rfl, o2, hb2⟩))
      refine hK.out _ _ ⟨?_, ?_⟩
      · exact HSx.out _ (hSB.out.trans ((hb2).mono hSB.out.size))
      · refine ⟨true, b5, b10, b11, b12, b13, b14, _, _, _, _, _, _, _, rfl, by simp only [pa]; rfl, ?_⟩
        exact { f2 := fun _ => BytRow.own o2, f5 := (LeF.later HF.out (hb2)).f5, f10 := (LeF.later HF.out (hb2)).f10, f11 := (LeF.later HF.out (hb2)).f11, f12 := (LeF.later HF.out (hb2)).f12, f13 := (LeF.later HF.out (hb2)).f13, f14 := HF.out.f14 }
    | 3, _ => exact absurd hun (by simp)
    | 4, _ => exact absurd hun (by simp)
    | 5, _ =>
      have e5 : b5 = false := hun
      subst e5
      have e2 : b2 = true := ready_dep 2 hi (by kernel_rfl)
      subst e2
      refine wpOp_step rfl (fun K hK0 => ?_)
      have hK := (show Shut _ from hK0)
      clear hK0
      simp only [pa]
      go_simp
      go_wp2_with (first | (go_at_call 68; refine (HT.out _).mono ?_; rintro e x2 ⟨a2, c2, rfl, o2, hb2⟩))
      refine hK.out _ _ ⟨?_, ?_⟩
      · exact HSx.out _ (hSB.out.trans ((hb2).mono hSB.out.size))
      · refine ⟨true, true, b10, b11, b12, b13, b14, _, _, _, _, _, _, _, rfl, by simp only [pa]; rfl, ?_⟩
        exact { f2 := (LeF.later HF.out (hb2)).f2, f5 := fun _ => BytRow.own o2, f10 := (LeF.later HF.out (hb2)).f10, f11 := (LeF.later HF.out (hb2)).f11, f12 := (LeF.later HF.out (hb2)).f12, f13 := (LeF.later HF.out (hb2)).f13, f14 := HF.out.f14 }
    | 6, _ => exact absurd hun (by simp)
    | 7, _ => exact absurd hun (by simp)
    | 8, _ => exact absurd hun (by simp)
    | 9, _ => exact absurd hun (by simp)
    | 10, _ =>
      have e10 : b10 = false := hun
      subst e10
      refine wpOp_step rfl (fun K hK0 => ?_)
      have hK := (show Shut _ from hK0)
      clear hK0
      simp only [pa]
      go_simp
      refine hK.out _ _ ⟨?_, ?_⟩
      · exact HSx.out _ (hSB.out.trans ((alloc_below _ _).mono hSB.out.size))
      · refine ⟨b2, b5, true, b11, b12, b13, b14, _, _, _, _, _, _, _, rfl, by simp only [pa]; rfl, ?_⟩
        exact { f2 := (LeF.later HF.out (alloc_below _ _)).f2, f5 := (LeF.later HF.out (alloc_below _ _)).f5, f10 := fun _ => irow2 _ _ (q.k) (q.u), f11 := (LeF.later HF.out (alloc_below _ _)).f11, f12 := (LeF.later HF.out (alloc_below _ _)).f12, f13 := (LeF.later HF.out (alloc_below _ _)).f13, f14 := HF.out.f14 }
    | 11, _ =>
      have e11 : b11 = false := hun
      subst e11
      have e5 : b5 = true := ready_dep 5 hi (by kernel_rfl)
      subst e5
      have e10 : b10 = true := ready_dep 10 hi (by kernel_rfl)
      subst e10
      obtain ⟨g, c, rfl, hg, hcs⟩ := HF.out.f10 rfl
      refine wpOp_step rfl (fun K hK0 => ?_)
      have hK := (show Shut _ from hK0)
      clear hK0
      simp only [pa]
      go_simp
      go_wp2_with (first | (go_at_call 35; refine (putNums_any g c 2 [q.k, q.u] _ hg rfl (by omega) hcs).mono ?_; rintro e x2 ⟨a2, c2, rfl, o2, hb2⟩))
      refine hK.out _ _ ⟨?_, ?_⟩
      · exact HSx.out _ (hSB.out.trans ((hb2).mono hSB.out.size))
      · refine ⟨b2, true, true, true, b12, b13, b14, _, _, _, _, _, _, _, rfl, by simp only [pa]; rfl, ?_⟩
        exact { f2 := (LeF.later HF.out (hb2)).f2, f5 := (LeF.later HF.out (hb2)).f5, f10 := (LeF.later HF.out (hb2)).f10, f11 := fun _ => BytRow.own o2, f12 := (LeF.later HF.out (hb2)).f12, f13 := (LeF.later HF.out (hb2)).f13, f14 := HF.out.f14 }
    | 12, _ =>
      have e12 : b12 = false := hun
      subst e12
      have e2 : b2 = true := ready_dep 2 hi (by kernel_rfl)
      subst e2
      have e5 : b5 = true := ready_dep 5 hi (by kernel_rfl)
      subst e5
      have e11 : b11 = true := ready_dep 11 hi (by kernel_rfl)
      subst e11
      obtain ⟨a0, c0, rfl, h0, n0⟩ := HF.out.f2 rfl
      obtain ⟨a1, c1, rfl, h1, n1⟩ := HF.out.f5 rfl
      obtain ⟨a2, c2, rfl, h2, n2⟩ := HF.out.f11 rfl
      refine wpOp_step rfl (fun K hK0 => ?_)
      have hK := (show Shut _ from hK0)
      clear hK0
      simp only [pa]
      go_simp
      refine hK.out _ _ ⟨?_, ?_⟩
      · exact HSx.out _ (hSB.out.trans ((alloc_below _ _).mono hSB.out.size))
      · refine ⟨true, true, b10, true, true, b13, b14, _, _, _, _, _, _, _, rfl, by simp only [pa]; rfl, ?_⟩
        exact { f2 := (LeF.later HF.out (alloc_below _ _)).f2, f5 := (LeF.later HF.out (alloc_below _ _)).f5, f10 := (LeF.later HF.out (alloc_below _ _)).f10, f11 := (LeF.later HF.out (alloc_below _ _)).f11, f12 := fun _ => ⟨_, rfl, by simp, fun j hj => by
          rcases j with _ | _ | _ | j
          · exact ⟨a0, c0, _, rfl, by simp [go_sem], h0.later (alloc_below _ _), n0⟩
          · exact ⟨a1, c1, _, rfl, by simp [go_sem], h1.later (alloc_below _ _), n1⟩
          · exact ⟨a2, c2, _, rfl, by simp [go_sem], h2.later (alloc_below _ _), n2⟩
          · simp at hj; omega⟩, f13 := (LeF.later HF.out (alloc_below _ _)).f13, f14 := HF.out.f14 }
    | 13, _ =>
      have e13 : b13 = false := hun
      subst e13
      have e11 : b11 = true := ready_dep 11 hi (by kernel_rfl)
      subst e11
      have e12 : b12 = true := ready_dep 12 hi (by kernel_rfl)
      subst e12
      obtain ⟨g, rfl, hg, hR⟩ := HF.out.f12 rfl
      have HRw := hidP hR
      clear hR
      refine wpOp_step rfl (fun K hK0 => ?_)
      have hK := (show Shut _ from hK0)
      clear hK0
      simp only [pa]
      go_simp
      have hcat := concat_any g 3 3 [adrB q.a.s q.a.H.toInt q.a.L.toInt, txtB q.t, numsB [q.k, q.u]] x rfl (by omega) hg HRw.out HZ.out.1 HZ.out.2
      rw [HZf.out] at hcat
      have HCa := hidP hcat
      clear hcat
      go_wp2_with (first | (go_at_call 29; refine (HCa.out).mono ?_; rintro e x2 ⟨g2, c2, rfl, o2, hb2⟩))
      refine hK.out _ _ ⟨?_, ?_⟩
      · exact HSx.out _ (hSB.out.trans ((hb2).mono hSB.out.size))
      · refine ⟨b2, b5, b10, true, true, true, b14, _, _, _, _, _, _, _, rfl, by simp only [pa]; rfl, ?_⟩
        exact { f2 := (LeF.later HF.out (hb2)).f2, f5 := (LeF.later HF.out (hb2)).f5, f10 := (LeF.later HF.out (hb2)).f10, f11 := (LeF.later HF.out (hb2)).f11, f12 := (LeF.later HF.out (hb2)).f12, f13 := fun _ => ⟨g2, c2, rfl, o2.mono hSB.out.size⟩, f14 := fun e => absurd (HF.out.f14 e).1 (by simp) }
    | 14, _ =>
      have e14 : b14 = false := hun
      subst e14
      have e2 : b2 = true := ready_dep 2 hi (by kernel_rfl)
      subst e2
      have e5 : b5 = true := ready_dep 5 hi (by kernel_rfl)
      subst e5
      have e10 : b10 = true := ready_dep 10 hi (by kernel_rfl)
      subst e10
      have e11 : b11 = true := ready_dep 11 hi (by kernel_rfl)
      subst e11
      have e12 : b12 = true := ready_dep 12 hi (by kernel_rfl)
      subst e12
      have e13 : b13 = true := ready_dep 13 hi (by kernel_rfl)
      subst e13
      refine wpOp_step rfl (fun K hK0 => ?_)
      have hK := (show Shut _ from hK0)
      clear hK0
      simp only [pa]
      go_simp
      refine hK.out _ _ ⟨?_, ?_⟩
      · exact HSx.out _ (hSB.out.trans ((Below.refl _ _).mono hSB.out.size))
      · refine ⟨true, true, true, true, true, true, true, _, _, _, _, _, _, _, rfl, by simp only [pa]; rfl, ?_⟩
        exact { f2 := (LeF.later HF.out (Below.refl _ _)).f2, f5 := (LeF.later HF.out (Below.refl _ _)).f5, f10 := (LeF.later HF.out (Below.refl _ _)).f10, f11 := (LeF.later HF.out (Below.refl _ _)).f11, f12 := (LeF.later HF.out (Below.refl _ _)).f12, f13 := (LeF.later HF.out (Below.refl _ _)).f13, f14 := fun _ => ⟨rfl, rfl⟩ }
    | j + 15, h => exact absurd h (by simp)
  · rintro listed a x ⟨b2, b5, b10, b11, b12, b13, b14, v5, v8, v13, v14, v15, v16, v2, rfl, rfl, hF⟩ hHeld hnil
    have hno : ∀ i, i ∈ Region.ready .any _ _ → False := fun i h => by rw [hnil] at h; cases h
    have e2 : b2 = true := by
      cases b2
      · exact (hno 2 (ready_in (by decide) (by kernel_rfl))).elim
      · rfl
    subst e2
    have e5 : b5 = true := by
      cases b5
      · exact (hno 5 (ready_in (by decide) (by kernel_rfl))).elim
      · rfl
    subst e5
    have e10 : b10 = true := by
      cases b10
      · exact (hno 10 (ready_in (by decide) (by kernel_rfl))).elim
      · rfl
    subst e10
    have e11 : b11 = true := by
      cases b11
      · exact (hno 11 (ready_in (by decide) (by kernel_rfl))).elim
      · rfl
    subst e11
    have e12 : b12 = true := by
      cases b12
      · exact (hno 12 (ready_in (by decide) (by kernel_rfl))).elim
      · rfl
    subst e12
    have e13 : b13 = true := by
      cases b13
      · exact (hno 13 (ready_in (by decide) (by kernel_rfl))).elim
      · rfl
    subst e13
    have e14 : b14 = true := by
      cases b14
      · exact (hno 14 (ready_in (by decide) (by kernel_rfl))).elim
      · rfl
    subst e14
    obtain ⟨g, c, rfl, hO⟩ := hF.f13 rfl
    obtain ⟨_, rfl⟩ := hF.f14 rfl
    have HO := hidP (hO.mono (B' := w.heap.size) hWB)
    have HB := hidP (HW.out.trans ((hHeld.2.2.2.2.2.2).mono hWB))
    clear hHeld hF hO hnil hno
    simp only [pa]
    go_wp2_with fail
    go_ret
    exact ⟨g, c, rfl, HO.out, HB.out⟩

structure SeF (I4 Z5 Z8 Z11 Zf : List Int) (B : Nat) (b4 b5 b8 b11 b12 b13 b14 : Bool) (v7 v8 v11 v14 v15 v16 v2 : Value) (w : World) : Prop where
  f4 : b4 = true → IntRow w v7 I4
  f5 : b5 = true → BytRow w v8 Z5
  f8 : b8 = true → BytRow w v11 Z8
  f11 : b11 = true → BytRow w v14 Z11
  f12 : b12 = true → ∃ g, v15 = .slice (some ⟨g, 0, none⟩) 3 3 ∧ g < w.heap.size ∧ Rws w g [Z5, Z8, Z11]
  f13 : b13 = true → ∃ g c, v16 = .slice (some ⟨g, 0, none⟩) Zf.length c ∧ Own w B (.slice (some ⟨g, 0, none⟩) Zf.length c) Zf
  f14 : b14 = true → b13 = true ∧ v2 = v16
theorem SeF.later {I4 Z5 Z8 Z11 Zf : List Int} {B : Nat} {b4 b5 b8 b11 b12 b13 b14 : Bool} {v7 v8 v11 v14 v15 v16 v2 : Value} {w w' : World} (h : SeF I4 Z5 Z8 Z11 Zf B b4 b5 b8 b11 b12 b13 b14 v7 v8 v11 v14 v15 v16 v2 w) (hb : Below w.heap.size w w') : SeF I4 Z5 Z8 Z11 Zf B b4 b5 b8 b11 b12 b13 b14 v7 v8 v11 v14 v15 v16 v2 w' where
  f4 := fun e => (h.f4 e).later hb
  f5 := fun e => (h.f5 e).later hb
  f8 := fun e => (h.f8 e).later hb
  f11 := fun e => (h.f11 e).later hb
  f12 := fun e => by
    obtain ⟨g, h1, h2, h3⟩ := h.f12 e
    exact ⟨g, h1, Nat.lt_of_lt_of_le h2 hb.size, h3.later h2 hb⟩
  f13 := fun e => by
    obtain ⟨g, c, h1, h2⟩ := h.f13 e
    exact ⟨g, c, h1, h2.later hb⟩
  f14 := h.f14
set_option maxRecDepth 20000 in
set_option maxHeartbeats 8000000 in
theorem putSession_any (q : Ss) (ht : q.t.size ≤ 1048576) (w : World) :
    Calls Tryz.prog 39 #[.agg #[.int .i64 q.i, .int .i64 q.l, .string q.t, .int .i64 q.u]] w fun e w' => ∃ g c, e = .returned (.slice (some ⟨g, 0, none⟩) (sessB q).length c) ∧ Own w' w.heap.size (.slice (some ⟨g, 0, none⟩) (sessB q).length c) (sessB q) ∧ Below w.heap.size w w' := by
  have HZf : Hid ([numsB [q.i, q.l], txtB q.t, numB (u64 q.u)].flatten = sessB q) := hidP rfl
  have HZ : Hid (0 < ([numsB [q.i, q.l], txtB q.t, numB (u64 q.u)].flatten).length ∧ ([numsB [q.i, q.l], txtB q.t, numB (u64 q.u)].flatten).length ≤ 2000000) := hidP (by
    have h1 := numB_ten _ (u64_lt q.u)
    have h2 := txtB_len q.t
    have h2' := numB_pos (u64 q.u)
    have h3 := numsB_two q.i q.l
    simp only [List.flatten_cons, List.flatten_nil, List.length_append, List.length_nil]
    omega)
  have HN := hidP (iPutNum_any q.u)
  have HT := hidP (fun W => iPutText_any q.t W ht)
  generalize sessB q = Zf at *
  go_enter Tryz.func39, Tryz.ntmps39
  go_wp2_with fail
  obtain ⟨x0, x1, x2, x3⟩ := bxP4 w 77 (.int .i64 q.i) (.int .i64 q.l) (.string q.t) (.int .i64 q.u)
  have xB := hidP (alloc_below w (.cells #[.int .i64 q.i, .int .i64 q.l, .string q.t, .int .i64 q.u] 77))
  have xL : w.heap.size < (w.alloc (.cells #[.int .i64 q.i, .int .i64 q.l, .string q.t, .int .i64 q.u] 77)).heap.size := by simp
  generalize w.alloc (.cells #[.int .i64 q.i, .int .i64 q.l, .string q.t, .int .i64 q.u] 77) = W at *
  have HW := xB
  clear xB
  have HSx : Hid (∀ x, Below W.heap.size W x → (x.cell? ⟨w.heap.size, 0, none⟩ = some (.int .i64 q.i) ∧ x.cell? ⟨w.heap.size, 1, none⟩ = some (.int .i64 q.l) ∧ x.cell? ⟨w.heap.size, 2, none⟩ = some (.string q.t) ∧ x.cell? ⟨w.heap.size, 3, none⟩ = some (.int .i64 q.u) ∧ Below W.heap.size W x)) := hidP fun x h =>
    ⟨(h.cell xL).trans x0, (h.cell xL).trans x1, (h.cell xL).trans x2, (h.cell xL).trans x3, h⟩
  refine wp_region_held_drew (S := (fun x => x.cell? ⟨w.heap.size, 0, none⟩ = some (.int .i64 q.i) ∧ x.cell? ⟨w.heap.size, 1, none⟩ = some (.int .i64 q.l) ∧ x.cell? ⟨w.heap.size, 2, none⟩ = some (.string q.t) ∧ x.cell? ⟨w.heap.size, 3, none⟩ = some (.int .i64 q.u) ∧ Below W.heap.size W x)) (by kernel_rfl) ?_ (fun hHeld => ?_)
  · try dsimp only
    exact HSx.out _ (Below.refl _ _).drew
  refine tk 0 3 rfl ?_; simp only [pa]
  refine tk 1 4 rfl ?_; simp only [pa]
  refine tk 2 5 rfl ?_; simp only [pa]
  refine tk 3 6 rfl ?_; simp only [pa]
  refine tk 6 9 rfl ?_; simp only [pa]
  refine tk 7 10 rfl ?_; simp only [pa]
  refine tk 9 12 rfl ?_; simp only [pa]
  refine tk 10 13 rfl ?_; simp only [pa]
  have hWB : w.heap.size ≤ W.heap.size := HW.out.size
  clear x0 x1 x2 x3
  refine run_inv (fun A listed a x => ∃ (b4 b5 b8 b11 b12 b13 b14 : Bool) (v7 v8 v11 v14 v15 v16 v2 : Value), listed = #[true, true, true, true, b4, b5, true, true, b8, true, true, b11, b12, b13, b14] ∧ a = (((((((A.put (some 7) v7).put (some 8) v8).put (some 11) v11).put (some 14) v14).put (some 15) v15).put (some 16) v16).put (some 2) v2) ∧ SeF [q.i, q.l] (numsB [q.i, q.l]) (txtB q.t) (numB (u64 q.u)) Zf W.heap.size b4 b5 b8 b11 b12 b13 b14 v7 v8 v11 v14 v15 v16 v2 x) (by decide) hHeld ?_ ?_ ?_
  · refine ⟨false, false, false, false, false, false, false, undef, undef, undef, undef, undef, undef, .slice none 0 0, rfl, by simp only [pa], ?_⟩
    exact { f4 := (fun e => by cases e), f5 := (fun e => by cases e), f8 := (fun e => by cases e), f11 := (fun e => by cases e), f12 := (fun e => by cases e), f13 := (fun e => by cases e), f14 := (fun e => by cases e) }
  · rintro listed a x i ⟨b4, b5, b8, b11, b12, b13, b14, v7, v8, v11, v14, v15, v16, v2, rfl, rfl, hF⟩ hHeld hi
    have HF := hidP hF
    have hun := ready_un hi
    have hlt := ready_lt hi
    have hSB := hidP (hHeld.2.2.2.2)
    clear hF
    match i, hlt with
    | 0, _ => exact absurd hun (by simp)
    | 1, _ => exact absurd hun (by simp)
    | 2, _ => exact absurd hun (by simp)
    | 3, _ => exact absurd hun (by simp)
    | 4, _ =>
      have e4 : b4 = false := hun
      subst e4
      refine wpOp_step rfl (fun K hK0 => ?_)
      have hK := (show Shut _ from hK0)
      clear hK0
      simp only [pa]
      go_simp
      refine hK.out _ _ ⟨?_, ?_⟩
      · exact HSx.out _ (hSB.out.trans ((alloc_below _ _).mono hSB.out.size))
      · refine ⟨true, b5, b8, b11, b12, b13, b14, _, _, _, _, _, _, _, rfl, by simp only [pa]; rfl, ?_⟩
        exact { f4 := fun _ => irow2 _ _ (q.i) (q.l), f5 := (SeF.later HF.out (alloc_below _ _)).f5, f8 := (SeF.later HF.out (alloc_below _ _)).f8, f11 := (SeF.later HF.out (alloc_below _ _)).f11, f12 := (SeF.later HF.out (alloc_below _ _)).f12, f13 := (SeF.later HF.out (alloc_below _ _)).f13, f14 := HF.out.f14 }
    | 5, _ =>
      have e5 : b5 = false := hun
      subst e5
      have e4 : b4 = true := ready_dep 4 hi (by kernel_rfl)
      subst e4
      obtain ⟨g, c, rfl, hg, hcs⟩ := HF.out.f4 rfl
      refine wpOp_step rfl (fun K hK0 => ?_)
      have hK := (show Shut _ from hK0)
      clear hK0
      simp only [pa]
      go_simp
      go_wp2_with (first | (go_at_call 35; refine (putNums_any g c 2 [q.i, q.l] _ hg rfl (by omega) hcs).mono ?_; rintro e x2 ⟨a2, c2, rfl, o2, hb2⟩))
      refine hK.out _ _ ⟨?_, ?_⟩
      · exact HSx.out _ (hSB.out.trans ((hb2).mono hSB.out.size))
      · refine ⟨true, true, b8, b11, b12, b13, b14, _, _, _, _, _, _, _, rfl, by simp only [pa]; rfl, ?_⟩
        exact { f4 := (SeF.later HF.out (hb2)).f4, f5 := fun _ => BytRow.own o2, f8 := (SeF.later HF.out (hb2)).f8, f11 := (SeF.later HF.out (hb2)).f11, f12 := (SeF.later HF.out (hb2)).f12, f13 := (SeF.later HF.out (hb2)).f13, f14 := HF.out.f14 }
    | 6, _ => exact absurd hun (by simp)
    | 7, _ => exact absurd hun (by simp)
    | 8, _ =>
      have e8 : b8 = false := hun
      subst e8
      have e5 : b5 = true := ready_dep 5 hi (by kernel_rfl)
      subst e5
      refine wpOp_step rfl (fun K hK0 => ?_)
      have hK := (show Shut _ from hK0)
      clear hK0
      simp only [pa]
      go_simp
      go_wp2_with (first | (go_at_call 68; refine (HT.out _).mono ?_; rintro e x2 ⟨a2, c2, rfl, o2, hb2⟩))
      refine hK.out _ _ ⟨?_, ?_⟩
      · exact HSx.out _ (hSB.out.trans ((hb2).mono hSB.out.size))
      · refine ⟨b4, true, true, b11, b12, b13, b14, _, _, _, _, _, _, _, rfl, by simp only [pa]; rfl, ?_⟩
        exact { f4 := (SeF.later HF.out (hb2)).f4, f5 := (SeF.later HF.out (hb2)).f5, f8 := fun _ => BytRow.own o2, f11 := (SeF.later HF.out (hb2)).f11, f12 := (SeF.later HF.out (hb2)).f12, f13 := (SeF.later HF.out (hb2)).f13, f14 := HF.out.f14 }
    | 9, _ => exact absurd hun (by simp)
    | 10, _ => exact absurd hun (by simp)
    | 11, _ =>
      have e11 : b11 = false := hun
      subst e11
      have e8 : b8 = true := ready_dep 8 hi (by kernel_rfl)
      subst e8
      refine wpOp_step rfl (fun K hK0 => ?_)
      have hK := (show Shut _ from hK0)
      clear hK0
      simp only [pa]
      go_simp
      go_wp2_with (first | (go_at_call 30; refine (HN.out _).mono ?_; rintro e x2 ⟨a2, c2, rfl, o2, hb2⟩))
      refine hK.out _ _ ⟨?_, ?_⟩
      · exact HSx.out _ (hSB.out.trans ((hb2).mono hSB.out.size))
      · refine ⟨b4, b5, true, true, b12, b13, b14, _, _, _, _, _, _, _, rfl, by simp only [pa]; rfl, ?_⟩
        exact { f4 := (SeF.later HF.out (hb2)).f4, f5 := (SeF.later HF.out (hb2)).f5, f8 := (SeF.later HF.out (hb2)).f8, f11 := fun _ => BytRow.own o2, f12 := (SeF.later HF.out (hb2)).f12, f13 := (SeF.later HF.out (hb2)).f13, f14 := HF.out.f14 }
    | 12, _ =>
      have e12 : b12 = false := hun
      subst e12
      have e5 : b5 = true := ready_dep 5 hi (by kernel_rfl)
      subst e5
      have e8 : b8 = true := ready_dep 8 hi (by kernel_rfl)
      subst e8
      have e11 : b11 = true := ready_dep 11 hi (by kernel_rfl)
      subst e11
      obtain ⟨a0, c0, rfl, h0, n0⟩ := HF.out.f5 rfl
      obtain ⟨a1, c1, rfl, h1, n1⟩ := HF.out.f8 rfl
      obtain ⟨a2, c2, rfl, h2, n2⟩ := HF.out.f11 rfl
      refine wpOp_step rfl (fun K hK0 => ?_)
      have hK := (show Shut _ from hK0)
      clear hK0
      simp only [pa]
      go_simp
      refine hK.out _ _ ⟨?_, ?_⟩
      · exact HSx.out _ (hSB.out.trans ((alloc_below _ _).mono hSB.out.size))
      · refine ⟨b4, true, true, true, true, b13, b14, _, _, _, _, _, _, _, rfl, by simp only [pa]; rfl, ?_⟩
        exact { f4 := (SeF.later HF.out (alloc_below _ _)).f4, f5 := (SeF.later HF.out (alloc_below _ _)).f5, f8 := (SeF.later HF.out (alloc_below _ _)).f8, f11 := (SeF.later HF.out (alloc_below _ _)).f11, f12 := fun _ => ⟨_, rfl, by simp, fun j hj => by
          rcases j with _ | _ | _ | j
          · exact ⟨a0, c0, _, rfl, by simp [go_sem], h0.later (alloc_below _ _), n0⟩
          · exact ⟨a1, c1, _, rfl, by simp [go_sem], h1.later (alloc_below _ _), n1⟩
          · exact ⟨a2, c2, _, rfl, by simp [go_sem], h2.later (alloc_below _ _), n2⟩
          · simp at hj; omega⟩, f13 := (SeF.later HF.out (alloc_below _ _)).f13, f14 := HF.out.f14 }
    | 13, _ =>
      have e13 : b13 = false := hun
      subst e13
      have e11 : b11 = true := ready_dep 11 hi (by kernel_rfl)
      subst e11
      have e12 : b12 = true := ready_dep 12 hi (by kernel_rfl)
      subst e12
      obtain ⟨g, rfl, hg, hR⟩ := HF.out.f12 rfl
      have HRw := hidP hR
      clear hR
      refine wpOp_step rfl (fun K hK0 => ?_)
      have hK := (show Shut _ from hK0)
      clear hK0
      simp only [pa]
      go_simp
      have hcat := concat_any g 3 3 [numsB [q.i, q.l], txtB q.t, numB (u64 q.u)] x rfl (by omega) hg HRw.out HZ.out.1 HZ.out.2
      rw [HZf.out] at hcat
      have HCa := hidP hcat
      clear hcat
      go_wp2_with (first | (go_at_call 29; refine (HCa.out).mono ?_; rintro e x2 ⟨g2, c2, rfl, o2, hb2⟩))
      refine hK.out _ _ ⟨?_, ?_⟩
      · exact HSx.out _ (hSB.out.trans ((hb2).mono hSB.out.size))
      · refine ⟨b4, b5, b8, true, true, true, b14, _, _, _, _, _, _, _, rfl, by simp only [pa]; rfl, ?_⟩
        exact { f4 := (SeF.later HF.out (hb2)).f4, f5 := (SeF.later HF.out (hb2)).f5, f8 := (SeF.later HF.out (hb2)).f8, f11 := (SeF.later HF.out (hb2)).f11, f12 := (SeF.later HF.out (hb2)).f12, f13 := fun _ => ⟨g2, c2, rfl, o2.mono hSB.out.size⟩, f14 := fun e => absurd (HF.out.f14 e).1 (by simp) }
    | 14, _ =>
      have e14 : b14 = false := hun
      subst e14
      have e4 : b4 = true := ready_dep 4 hi (by kernel_rfl)
      subst e4
      have e5 : b5 = true := ready_dep 5 hi (by kernel_rfl)
      subst e5
      have e8 : b8 = true := ready_dep 8 hi (by kernel_rfl)
      subst e8
      have e11 : b11 = true := ready_dep 11 hi (by kernel_rfl)
      subst e11
      have e12 : b12 = true := ready_dep 12 hi (by kernel_rfl)
      subst e12
      have e13 : b13 = true := ready_dep 13 hi (by kernel_rfl)
      subst e13
      refine wpOp_step rfl (fun K hK0 => ?_)
      have hK := (show Shut _ from hK0)
      clear hK0
      simp only [pa]
      go_simp
      refine hK.out _ _ ⟨?_, ?_⟩
      · exact HSx.out _ (hSB.out.trans ((Below.refl _ _).mono hSB.out.size))
      · refine ⟨true, true, true, true, true, true, true, _, _, _, _, _, _, _, rfl, by simp only [pa]; rfl, ?_⟩
        exact { f4 := (SeF.later HF.out (Below.refl _ _)).f4, f5 := (SeF.later HF.out (Below.refl _ _)).f5, f8 := (SeF.later HF.out (Below.refl _ _)).f8, f11 := (SeF.later HF.out (Below.refl _ _)).f11, f12 := (SeF.later HF.out (Below.refl _ _)).f12, f13 := (SeF.later HF.out (Below.refl _ _)).f13, f14 := fun _ => ⟨rfl, rfl⟩ }
    | j + 15, h => exact absurd h (by simp)
  · rintro listed a x ⟨b4, b5, b8, b11, b12, b13, b14, v7, v8, v11, v14, v15, v16, v2, rfl, rfl, hF⟩ hHeld hnil
    have hno : ∀ i, i ∈ Region.ready .any _ _ → False := fun i h => by rw [hnil] at h; cases h
    have e4 : b4 = true := by
      cases b4
      · exact (hno 4 (ready_in (by decide) (by kernel_rfl))).elim
      · rfl
    subst e4
    have e5 : b5 = true := by
      cases b5
      · exact (hno 5 (ready_in (by decide) (by kernel_rfl))).elim
      · rfl
    subst e5
    have e8 : b8 = true := by
      cases b8
      · exact (hno 8 (ready_in (by decide) (by kernel_rfl))).elim
      · rfl
    subst e8
    have e11 : b11 = true := by
      cases b11
      · exact (hno 11 (ready_in (by decide) (by kernel_rfl))).elim
      · rfl
    subst e11
    have e12 : b12 = true := by
      cases b12
      · exact (hno 12 (ready_in (by decide) (by kernel_rfl))).elim
      · rfl
    subst e12
    have e13 : b13 = true := by
      cases b13
      · exact (hno 13 (ready_in (by decide) (by kernel_rfl))).elim
      · rfl
    subst e13
    have e14 : b14 = true := by
      cases b14
      · exact (hno 14 (ready_in (by decide) (by kernel_rfl))).elim
      · rfl
    subst e14
    obtain ⟨g, c, rfl, hO⟩ := hF.f13 rfl
    obtain ⟨_, rfl⟩ := hF.f14 rfl
    have HO := hidP (hO.mono (B' := w.heap.size) hWB)
    have HB := hidP (HW.out.trans ((hHeld.2.2.2.2).mono hWB))
    clear hHeld hF hO hnil hno
    simp only [pa]
    go_wp2_with fail
    go_ret
    exact ⟨g, c, rfl, HO.out, HB.out⟩

end Go.Proofs.YtngcbhbcocnbeaaGreat
namespace Go.Proofs.YtngcbhbcocnbeaaGreat
open Go.RowKit

/-- What lies in another block than g stays. -/
def KpG (g : Nat) (w w' : World) : Prop := ∀ p i v, p ≠ g → w.cell? ⟨p, i, none⟩ = some v → w'.cell? ⟨p, i, none⟩ = some v

set_option maxRecDepth 10000 in
set_option maxHeartbeats 4000000 in
theorem sNumsK_any (B q c m g L cap : Nat) (ys ns : List Int) (w : World) (hB : B ≤ w.heap.size) (hL : L = ys.length) (hL9 : L ≤ 10000000) (ho : Own w B (.slice (some ⟨g, 0, none⟩) L cap) ys) (hq : q < w.heap.size) (hqg : q ≠ g) (hm : m = ns.length) (h10 : m ≤ 10) (hc : ∀ j n, ns[j]? = some n → w.cell? ⟨q, j, none⟩ = some (.int .i64 n)) :
    Calls Tryz.prog 20 #[.slice (some ⟨g, 0, none⟩) L cap, .slice (some ⟨q, 0, none⟩) m c] w fun e w' => ∃ g' cap', e = .returned (.slice (some ⟨g', 0, none⟩) (ys ++ numsB ns).length cap') ∧ Own w' B (.slice (some ⟨g', 0, none⟩) (ys ++ numsB ns).length cap') (ys ++ numsB ns) ∧ (g' = g ∨ w.heap.size ≤ g') ∧ KpG g w w' ∧ Below B w w' := by
  have HC := hid' hc
  have HM := hid' hm
  have HO0 : Hid (Own w B (.slice (some ⟨g, 0, none⟩) (ys ++ numsB (ns.take 0)).length cap) (ys ++ numsB (ns.take 0))) := hid' (by subst hL; simpa [numsB] using ho)
  have HL0 := hid' (show (ys ++ numsB (ns.take 0)).length = L by subst hL; simp [numsB])
  clear hc hm ho
  go_enter Tryz.func20, Tryz.ntmps20
  go_wp2_with fail
  go_loopw [0, 5] (fun t0 t5 wr => ∃ (k g' cap' : Nat), k ≤ m ∧ t5 = .int .i64 k ∧ t0 = .slice (some ⟨g', 0, none⟩) (ys ++ numsB (ns.take k)).length cap' ∧ Own wr B (.slice (some ⟨g', 0, none⟩) (ys ++ numsB (ns.take k)).length cap') (ys ++ numsB (ns.take k)) ∧ (g' = g ∨ w.heap.size ≤ g') ∧ (∀ j n, ns[j]? = some n → wr.cell? ⟨q, j, none⟩ = some (.int .i64 n)) ∧ w.heap.size ≤ wr.heap.size ∧ KpG g w wr ∧ Below B w wr) (fun _ t5 _ => m - (intOf t5).toNat)
  case atStart => exact ⟨0, g, cap, Nat.zero_le _, rfl, by rw [HL0.out], HO0.out, Or.inl rfl, HC.out, Nat.le_refl _, fun _ _ _ _ h => h, Below.refl _ _⟩
  case round =>
    obtain ⟨k, g', cap', hk, rfl, rfl, hown, hg', hcc, hsz, hkp, hbel⟩ := hrel
    have HOw := hid' hown
    have HCC := hid' hcc
    have HB0 := hid' hbel
    have HG := hid' hg'
    have HKp := hid' hkp
    clear hown hcc hbel hg' hkp
    by_cases hlt : k < m
    · obtain ⟨n, hn⟩ := at_lt (ns := ns) (k := k) (by have := HM.out; omega)
      have hc1 := HCC.out k n hn
      have HX := hid' (show ys ++ numsB (ns.take (k + 1)) = (ys ++ numsB (ns.take k)) ++ numB (u64 n) by rw [numsB_at ns k n hn, List.append_assoc])
      have HLk := hid' (show (ys ++ numsB (ns.take k)).length ≤ L + 10 * k by rw [List.length_append]; have := numsB_le ns k; omega)
      have HT := hid' (numB_ten _ (u64_lt n))
      generalize ys ++ numsB (ns.take k) = Y at *
      have k0 : (0 : Int) ≤ (k : Int) := by omega
      have k1 : (k : Int) < (m : Int) := by omega
      clear hn
      go_wp2_with fail
      refine (sPutNum_any n _).mono ?_
      rintro e w2 ⟨a2, c2, rfl, o2, b2⟩
      have HO2 := hid' o2
      have HB2 := hid' b2
      have hBr : B ≤ w2.heap.size := by have := b2.size; omega
      clear o2 b2 hc1
      go_wp2_with (at_builtin; refine wpList_app _ rfl (.tmp 12) (.tmp 17) 35 rfl B g' Y.length cap' Y (numB (u64 n)) _ _ rfl rfl rfl (HOw.out.later HB2.out) rfl (src_byt (zs := numB (u64 n)) c2 HO2.out.bytA (by intro h; subst h; exact absurd HO2.out (fun h => by have := Own.head h (numB_pos _); simp at this))) (by have := HT.out; have := HLk.out; omega) hBr ?_; intro g3 c3 w3 hown hgr hat)
      have HO3 := hid' hown
      have HB3 := hid' (below_app (HB0.out.trans (HB2.out.mono (by omega))) (HOw.out.later HB2.out) hBr hgr)
      have HC3 : Hid (∀ j n, ns[j]? = some n → w3.cell? ⟨q, j, none⟩ = some (.int .i64 n)) := hid' (fun j n hj => by
        have h1 := (HB2.out.cell (p := ⟨q, j, none⟩) (by show q < _; omega)).trans (HCC.out j n hj)
        have h2 : q ≠ g' := by rcases HG.out with rfl | h2; exact hqg; omega
        rw [World.cell?_of_block (w := w2) (hgr.block q (World.block_lt_of_cell? w2 _ h1) (fun e => h2 (by simpa using e)))]
        exact h1)
      have hs3 := hgr.size
      have HK3 : Hid (KpG g w w3) := hid' (fun p i v hp hv => by
        have h0 := World.block_lt_of_cell? w _ hv
        have h1 := (HB2.out.cell (p := ⟨p, i, none⟩) (show p < _ from Nat.lt_of_lt_of_le h0 hsz)).trans (HKp.out p i v hp hv)
        have h2 : p ≠ g' := by
          have h0' : p < w.heap.size := h0
          rcases HG.out with rfl | h2
          · exact hp
          · omega
        rw [World.cell?_of_block (w := w2) (hgr.block p (World.block_lt_of_cell? w2 _ h1) (fun e => h2 (by simpa using e)))]
        exact h1)
      have hs2 := HB2.out.size
      have HG3 : Hid (g3 = g ∨ w.heap.size ≤ g3) := hid' (by rcases hat with rfl | rfl; exact HG.out; right; omega)
      clear hown hgr hat
      go_wp2_with fail
      go_roundw
      case rel =>
        refine ⟨k + 1, g3, c3, by omega, by go_num, ?_, ?_, HG3.out, HC3.out, by omega, HK3.out, HB3.out⟩
        · rw [HX.out, List.length_append]
        · rw [HX.out, List.length_append]; exact HO3.out
      case measure => simp [intOf]; omega
    · have he := numsB_all ns k (by have := HM.out; omega)
      rw [he] at HOw ⊢
      go_wp2_with fail
      go_ret
      exact ⟨g', cap', rfl, HOw.out, HG.out, HKp.out, HB0.out⟩

end Go.Proofs.YtngcbhbcocnbeaaGreat
namespace Go.Proofs.YtngcbhbcocnbeaaGreat
open Go.ChangeShapes Go.WideShapes Go.ChangeAt Go.RowKit Go.Joins Go.Deep

/-- How many bytes the owners have. -/
def sumL : List Ls → Nat
  | [] => 0
  | q :: t => q.t.size + sumL t
theorem sumL_app : ∀ xs ys : List Ls, sumL (xs ++ ys) = sumL xs + sumL ys
  | [], ys => by simp [sumL]
  | q :: t, ys => by simp [sumL, sumL_app t ys]; omega
theorem sumL_next {bs : List Ls} {k : Nat} {q : Ls} (h : bs[k]? = some q) : sumL (bs.take (k + 1)) = sumL (bs.take k) + q.t.size := by
  rw [List.take_add_one, h, sumL_app]; simp [sumL]
theorem sumL_le (bs : List Ls) (k : Nat) : sumL (bs.take k) ≤ sumL bs := by
  conv => rhs; rw [← List.take_append_drop k bs, sumL_app]
  omega


set_option maxHeartbeats 400000 in
theorem szLease_any (q : Ls) (l : Int) (h0 : 0 ≤ l) (h1 : l ≤ 1048576) (h9 : q.t.size ≤ 9223372036854775807) (w : World) :
    Calls Tryz.prog 79 #[.agg #[.bool q.a.s, .int .i64 q.a.H.toInt, .int .i64 q.a.L.toInt, .string q.t, .int .i64 q.k, .int .i64 q.u], .int .i64 l] w fun e w' => e = .returned (.int .i64 (szO l q.t.size)) ∧ Below w.heap.size w w' := by
  by_cases hd : l - (q.t.size : Int) < 0
  · rw [szO_yes hd]
    go_enter Tryz.func79, Tryz.ntmps79
    go_wp2
    go_ret
    exact ⟨rfl, (Below.refl _ _).alloc (Nat.le_refl _) _⟩
  · rw [szO_no hd]
    have hd2 : decide (l - (q.t.size : Int) < 0) = false := decide_eq_false hd
    go_enter Tryz.func79, Tryz.ntmps79
    go_wp2
    go_ret
    exact ⟨rfl, (Below.refl _ _).alloc (Nat.le_refl _) _⟩

set_option maxHeartbeats 1000000 in
theorem szLeaseS_any (a : Option Addr) (n cap : Nat) (bs : List Ls) (l : Int) (h0 : 0 ≤ l) (h1 : l ≤ 1048576) (w : World) (hn : n = bs.length) (hB : RowG KLs w a bs) (h9 : n ≤ 9223372036854775807) (hst : ∀ q ∈ bs, q.t.size ≤ 9223372036854775807) :
    Calls Tryz.prog 50 #[.slice a n cap, .int .i64 l] w fun e w' => e = .returned (.int .i64 (szB n (sumL bs) l)) ∧ Below w.heap.size w w' := by
  have HB := hidP hB
  have HN := hidP hn
  have HST := hidP hst
  clear hB hn hst
  by_cases hnl : l < (n : Int)
  · rw [szB_no (by omega)]
    have d1 : decide (l - (n : Int) < 0) = true := decide_eq_true (by omega)
    go_enter Tryz.func50, Tryz.ntmps50
    go_wp2
    go_ret
    exact ⟨rfl, Below.refl _ _⟩
  · have d1 : decide (l - (n : Int) < 0) = false := decide_eq_false (by omega)
    have d2 : ¬ (l - (n : Int) < 0) := by omega
    go_enter Tryz.func50, Tryz.ntmps50
    go_wp2_with fail
    go_loopw [1, 5] (fun t1 t5 wr => ∃ (k : Nat) (z : Int), k ≤ n ∧ t5 = .int .i64 k ∧ t1 = .int .i64 z ∧ z = l - n - sumL (bs.take k) ∧ 0 ≤ z ∧ Below w.heap.size w wr) (fun _ t5 _ => n - (intOf t5).toNat)
    case atStart => exact ⟨0, l - n, Nat.zero_le _, rfl, rfl, by simp [sumL], by omega, Below.refl _ _⟩
    case round =>
      obtain ⟨k, z, hk, rfl, rfl, hz, hz0, hbel⟩ := hrel
      by_cases hlt : k < n
      · obtain ⟨p, o, q, rfl, hp, hq, c0, c1, c2, c3, c4, c5⟩ := rowLs HB.out k (by rw [← HN.out]; exact hlt)
        have d0 := (hbel.cell hp).trans c0
        have d1 := (hbel.cell hp).trans c1
        have d2 := (hbel.cell hp).trans c2
        have d3 := (hbel.cell hp).trans c3
        have d4 := (hbel.cell hp).trans c4
        have d5 := (hbel.cell hp).trans c5
        have HBel := hidP hbel
        have HNx := hidP (sumL_next hq)
        have HLe := hidP (sumL_le bs (k + 1))
        have hz1 : z ≤ 1048576 := by omega
        have HZ := hidP hz
        have HS := hidP (szLease_any q z hz0 hz1 (HST.out q (List.mem_of_getElem? hq)))
        clear c0 c1 c2 c3 c4 c5 hq hbel hz
        by_cases hd : z - (q.t.size : Int) < 0
        · rw [szO_yes hd] at HS
          have HF : Hid (¬ ((n : Int) + (sumL bs : Int) ≤ l)) := hidP (by have := HZ.out; have := HNx.out; have := HLe.out; omega)
          go_wp2_with fail
          refine (HS.out _).mono ?_
          rintro e w2 ⟨rfl, hb2⟩
          have HB2 := hidP (HBel.out.trans (hb2.mono HBel.out.size))
          clear hb2 HBel d0 d1 d2 d3 d4 d5
          go_wp2_with fail
          go_ret
          exact ⟨ret_i (szB_no (by have := HF.out; omega)).symm, HB2.out⟩
        · rw [szO_no hd] at HS
          have hd2 : decide (z - (q.t.size : Int) < 0) = false := decide_eq_false hd
          go_wp2_with fail
          refine (HS.out _).mono ?_
          rintro e w2 ⟨rfl, hb2⟩
          have HB2 := hidP (HBel.out.trans (hb2.mono HBel.out.size))
          clear hb2 HBel d0 d1 d2 d3 d4 d5
          go_wp2_with fail
          go_roundw
          case rel => exact ⟨k + 1, z - (q.t.size : Int), by omega, by go_num, rfl, by have := HZ.out; have := HNx.out; omega, by omega, HB2.out⟩
          case measure => simp [intOf]; omega
      · have hkn : k = n := by omega
        have HF : Hid ((n : Int) + (sumL bs : Int) ≤ l ∧ z = l - n - sumL bs) := by
          rw [List.take_of_length_le (by have := HN.out; omega)] at hz
          exact hidP ⟨by omega, hz⟩
        have HBel := hidP hbel
        clear hbel hz
        go_wp2_with fail
        go_ret
        exact ⟨ret_i (by rw [szB_yes HF.out.1, ← HF.out.2]), HBel.out⟩


/-- How much of a law's room a book takes. -/
def totB (ls : List Ls) : Int := ls.length + sumL ls
theorem box3B (w : World) (t : TypeId) (u v x : Value) : (w.alloc (.cells #[u, v, x] t)).cell? ⟨w.heap.size, 0, none⟩ = some u ∧ (w.alloc (.cells #[u, v, x] t)).cell? ⟨w.heap.size, 1, none⟩ = some v ∧ (w.alloc (.cells #[u, v, x] t)).cell? ⟨w.heap.size, 2, none⟩ = some x := ⟨by simp [go_sem], by simp [go_sem], by simp [go_sem]⟩

set_option maxHeartbeats 1000000 in
theorem szBook_at (a : Option Addr) (n c : Nat) (T N : Int) (ls : List Ls) (l : Int) (h0 : 0 ≤ l) (h1 : l ≤ 1048576) (w : World) (hn : n = ls.length) (hP : RowG KLs w a ls) (h9 : n ≤ 9223372036854775807) (hst : ∀ q ∈ ls, q.t.size ≤ 9223372036854775807) :
    Calls Tryz.prog 17 #[.agg #[.slice a n c, .int .i64 T, .int .i64 N], .int .i64 l] w fun e w' => e = .returned (.int .i64 (szB ls.length (sumL ls) l)) ∧ Below w.heap.size w w' := by
  rw [← hn]
  have HS := hidP (fun W h => szLeaseS_any a n c ls l h0 h1 W hn (hP.later h) h9 hst)
  clear hP hn hst
  by_cases ht : (n : Int) + (sumL ls : Int) ≤ l
  · rw [szB_yes ht] at HS
    rw [szB_yes ht]
    have hz2 : decide (l - (n : Int) - (sumL ls : Int) < 0) = false := decide_eq_false (by omega)
    generalize he : (l - (n : Int) - (sumL ls : Int)) = z at *
    have hz3 : ¬ z < 0 := by omega
    have HE := hidP he
    clear he
    go_enter Tryz.func17, Tryz.ntmps17
    go_wp2_with fail
    refine (HS.out _ (alloc_below w _)).mono ?_
    rintro e w2 ⟨rfl, hb2⟩
    have HB2 := hidP hb2
    clear hb2
    go_wp2_with fail
    go_ret
    exact ⟨ret_i (by have := HE.out; omega), (alloc_below w _).trans (HB2.out.mono (alloc_below w _).size)⟩
  · rw [szB_no ht] at HS
    rw [szB_no ht]
    go_enter Tryz.func17, Tryz.ntmps17
    go_wp2_with fail
    refine (HS.out _ (alloc_below w _)).mono ?_
    rintro e w2 ⟨rfl, hb2⟩
    have HB2 := hidP hb2
    clear hb2
    go_wp2_with fail
    go_ret
    exact ⟨rfl, (alloc_below w _).trans (HB2.out.mono (alloc_below w _).size)⟩

set_option maxHeartbeats 1000000 in
theorem toBook_any (a : Option Addr) (n c : Nat) (T N : Int) (ls : List Ls) (w : World) (hn : n = ls.length) (hP : RowG KLs w a ls) (hl : n ≤ 1048576) :
    Calls Tryz.prog 26 #[.agg #[.slice a n c, .int .i64 T, .int .i64 N]] w fun e w' => ∃ g, e = .returned (.agg #[.slice (some ⟨g, 0, none⟩) n n, .int .i64 T, .int .i64 N]) ∧ OwnG KLs 74 w' w.heap.size (.slice (some ⟨g, 0, none⟩) n n) ls ∧ Below w.heap.size w w' := by
  have HTP := hidP (fun W h => toLeaseS_any a n c ls W hn (hP.later h) hl)
  clear hP hn
  go_enter Tryz.func26, Tryz.ntmps26
  go_wp2_with fail
  refine (HTP.out _ ?_).mono ?_
  · repeat (first | with_reducible exact Below.refl _ _ | (with_reducible refine Below.drew ?_) | (with_reducible refine Below.alloc ?_ ?_ _; rotate_left; (focus (first | omega | (simp; omega) | (simp; done)))) | (with_reducible refine Below.setCell ?_ ?_ _; rotate_left; (focus (first | omega | (simp; omega) | (simp; done)))))
  rintro e w1 ⟨g, rfl, og, hb1⟩
  have hz1 := hb1.size
  try simp at hz1
  have hgl := OwnG.lt og g rfl
  try simp at hgl
  have f10 : w.heap.size < w1.heap.size := by omega
  have f11 : w.heap.size + 1 < w1.heap.size := by omega
  have f12 : w.heap.size + 2 < w1.heap.size := by omega
  refine olds_k (w.heap.size + 3) hb1 ?_ ?_
  · first | omega | (simp; omega) | (simp; done)
  intro hc1 hf1
  have OG := hidP og
  clear og
  go_wp2_with fail
  refine bodyPost_ret (v := .agg #[.slice (some ⟨g, 0, none⟩) n n, .int .i64 T, .int .i64 N]) (by simp [results, Tryz.results26, go_sem, hc1]) rfl ⟨g, rfl, ?_, ?_⟩
  · have ne : ∀ x : Nat, x < w.heap.size + 3 → ∀ k, (Value.slice (some ⟨g, 0, none⟩) n n).ownBlock = some k → some x ≠ some k := fun x hx k hk e => by simp [Value.ownBlock] at hk e; omega
    refine OwnG.mono (B := w.heap.size + 3) ?_ (by omega)
    iterate 6 (with_reducible refine OwnG.grown ?_ (grown_cellG _ _ _ _) ?_; rotate_left; (focus (exact ne _ (by omega))))
    with_reducible exact OG.out.mono (by first | (simp; done) | (simp; omega))
  · repeat (first | with_reducible exact Below.refl _ _ | (with_reducible refine Below.drew ?_) | (with_reducible refine Below.alloc ?_ ?_ _; rotate_left; (focus (first | omega | (simp; omega) | (simp; done)))) | (with_reducible refine Below.setCell ?_ ?_ _; rotate_left; (focus (first | omega | (simp; omega) | (simp; done)))) | (with_reducible refine Below.trans ?_ (hb1.mono ?_); rotate_left; (focus (first | omega | (simp; omega) | (simp; done)))))

set_option maxHeartbeats 1000000 in
theorem eqBook_same (a a' : Option Addr) (n c c' : Nat) (T N : Int) (ls : List Ls) (w : World) (hn : n = ls.length) (hP : RowG KLs w a ls) (hP' : RowG KLs w a' ls) (hl : n ≤ 9000000000) :
    Calls Tryz.prog 41 #[.agg #[.slice a n c, .int .i64 T, .int .i64 N], .agg #[.slice a' n c', .int .i64 T, .int .i64 N]] w fun e w' => e = .returned (.bool true) ∧ Below w.heap.size w w' := by
  have HTP := hidP (fun W h => eqLeaseS_same a a' n c c' ls W hn (hP.later h) (hP'.later h) hl)
  clear hP hP' hn
  go_enter Tryz.func41, Tryz.ntmps41
  go_wp2_with fail
  refine (HTP.out _ ?_).mono ?_
  · repeat (first | with_reducible exact Below.refl _ _ | (with_reducible refine Below.drew ?_) | (with_reducible refine Below.alloc ?_ ?_ _; rotate_left; (focus (first | omega | (simp; omega) | (simp; done)))) | (with_reducible refine Below.setCell ?_ ?_ _; rotate_left; (focus (first | omega | (simp; omega) | (simp; done)))))
  rintro e w1 ⟨rfl, hb1⟩
  have hz1 := hb1.size
  try simp at hz1
  have f10 : w.heap.size < w1.heap.size := by omega
  have f11 : w.heap.size + 1 < w1.heap.size := by omega
  refine olds_k (w.heap.size + 2) hb1 ?_ ?_
  · first | omega | (simp; omega) | (simp; done)
  intro hc1 hf1
  go_wp2_with fail
  go_ret
  refine ⟨rfl, ?_⟩
  repeat (first | with_reducible exact Below.refl _ _ | (with_reducible refine Below.drew ?_) | (with_reducible refine Below.alloc ?_ ?_ _; rotate_left; (focus (first | omega | (simp; omega) | (simp; done)))) | (with_reducible refine Below.setCell ?_ ?_ _; rotate_left; (focus (first | omega | (simp; omega) | (simp; done)))) | (with_reducible refine Below.trans ?_ (hb1.mono ?_); rotate_left; (focus (first | omega | (simp; omega) | (simp; done)))))

end Go.Proofs.YtngcbhbcocnbeaaGreat
namespace Go.Proofs.YtngcbhbcocnbeaaGreat
open Go.ChangeShapes Go.WideShapes Go.ChangeAt Go.RowKit Go.Joins Go.Deep

theorem cell_set1 {w : World} {b o x o' : Nat} {u v : Value} (h : w.cell? ⟨b, o, none⟩ = some u) (hne : b ≠ x) : (w.setCell ⟨x, o', none⟩ v).cell? ⟨b, o, none⟩ = some u := by
  rw [World.cell?_of_block (w := w) ((grown_cellG w x o' v).block b (World.block_lt_of_cell? w _ h) (fun e => hne (by simpa using e)))]
  exact h
theorem frz_set1 {w : World} {b o x o' : Nat} {v : Value} (h : w.frozen? ⟨b, o, none⟩ = false) : (w.setCell ⟨x, o', none⟩ v).frozen? ⟨b, o, none⟩ = false := by
  simpa [go_sem] using h
theorem OwnG.ne_of {α : Type} {K : Kd α} {t : TypeId} {w : World} {B x : Nat} {v : Value} {ps : List α} (h : OwnG K t w B v ps) (hx : x < B) : ∀ k, v.ownBlock = some k → some x ≠ some k := fun k hk e => by
  have := (OwnG.lt h k hk).1
  simp at e; omega
theorem bx8 (w : World) (t : TypeId) (v0 v1 v2 v3 v4 v5 v6 v7 : Value) : (w.alloc (.cells #[v0, v1, v2, v3, v4, v5, v6, v7] t)).cell? ⟨w.heap.size, 0, none⟩ = some v0 ∧ (w.alloc (.cells #[v0, v1, v2, v3, v4, v5, v6, v7] t)).cell? ⟨w.heap.size, 1, none⟩ = some v1 ∧ (w.alloc (.cells #[v0, v1, v2, v3, v4, v5, v6, v7] t)).cell? ⟨w.heap.size, 2, none⟩ = some v2 ∧ (w.alloc (.cells #[v0, v1, v2, v3, v4, v5, v6, v7] t)).cell? ⟨w.heap.size, 3, none⟩ = some v3 ∧ (w.alloc (.cells #[v0, v1, v2, v3, v4, v5, v6, v7] t)).cell? ⟨w.heap.size, 4, none⟩ = some v4 ∧ (w.alloc (.cells #[v0, v1, v2, v3, v4, v5, v6, v7] t)).cell? ⟨w.heap.size, 5, none⟩ = some v5 ∧ (w.alloc (.cells #[v0, v1, v2, v3, v4, v5, v6, v7] t)).cell? ⟨w.heap.size, 6, none⟩ = some v6 ∧ (w.alloc (.cells #[v0, v1, v2, v3, v4, v5, v6, v7] t)).cell? ⟨w.heap.size, 7, none⟩ = some v7 := ⟨by simp [go_sem], by simp [go_sem], by simp [go_sem], by simp [go_sem], by simp [go_sem], by simp [go_sem], by simp [go_sem], by simp [go_sem]⟩
/-- How much of a law's room a state takes. -/
def totS (ps : List Pl) (bs : List Bk) (ls : List Ls) (ss : List Ss) : Int := totP ps bs + totB ls + totD ss
theorem totB_nn (ls : List Ls) : 0 ≤ totB ls := by unfold totB; omega
theorem totD_nn (ss : List Ss) : 0 ≤ totD ss := by unfold totD; omega
theorem totP_nn (ps : List Pl) (bs : List Bk) : 0 ≤ totP ps bs := by unfold totP; omega

set_option maxRecDepth 10000 in
set_option maxHeartbeats 2000000 in
theorem szState_any (ap : Option Addr) (np cp : Nat) (ab : Option Addr) (nb cb : Nat) (al : Option Addr) (nl cl : Nat) (T N : Int) (aS : Option Addr) (ns cs : Nat) (X C : Int) (ps : List Pl) (bs : List Bk) (ls : List Ls) (ss : List Ss) (w : World) (hnp : np = ps.length) (hnb : nb = bs.length) (hnl : nl = ls.length) (hns : ns = ss.length) (hK : RowG KBk w ab bs) (hL : RowG KLs w al ls) (hS : RowG KSs w aS ss) (h9p : np ≤ 9223372036854775807) (h9b : nb ≤ 9223372036854775807) (h9l : nl ≤ 9223372036854775807) (h9s : ns ≤ 9223372036854775807) (hsb : ∀ q ∈ bs, q.t.size ≤ 9223372036854775807) (hsl : ∀ q ∈ ls, q.t.size ≤ 9223372036854775807) (hss : ∀ q ∈ ss, q.t.size ≤ 9223372036854775807) :
    Calls Tryz.prog 5 #[.agg #[.slice ap np cp, .slice ab nb cb, .slice al nl cl, .int .i64 T, .int .i64 N, .slice aS ns cs, .int .i64 X, .int .i64 C], .int .i64 1048576] w fun e w' => e = .returned (.int .i64 (szT (totS ps bs ls ss))) ∧ Below w.heap.size w w' := by
  have HP := hidP (fun W h => szPlan_any ap np cp ab nb cb ps bs W hnp hnb (hK.later h) h9p h9b hsb)
  have HB := hidP (fun l h0 h1 W h => szBook_at al nl cl T N ls l h0 h1 W hnl (hL.later h) h9l hsl)
  have HD := hidP (fun l h0 h1 W h => szDesk_at aS ns cs X ss l h0 h1 W hns (hS.later h) h9s hss)
  have e1 : totB ls = (ls.length : Int) + (sumL ls : Int) := rfl
  have e2 : totD ss = (ss.length : Int) + (sumS ss : Int) := rfl
  have n1 := totP_nn ps bs
  unfold totS
  clear hK hL hS hnp hnb hnl hns hsb hsl hss
  by_cases ht : totP ps bs ≤ 1048576
  · rw [szT_yes ht] at HP
    have d1 : decide (1048576 - totP ps bs < 0) = false := decide_eq_false (by omega)
    by_cases hb : (ls.length : Int) + (sumL ls : Int) ≤ 1048576 - totP ps bs
    · have HB1 := hidP (fun W h => HB.out (1048576 - totP ps bs) (by omega) (by omega) W h)
      rw [szB_yes hb] at HB1
      have d2 : decide (1048576 - totP ps bs - (ls.length : Int) - (sumL ls : Int) < 0) = false := decide_eq_false (by omega)
      have HD1 := hidP (fun W h => HD.out (1048576 - totP ps bs - (ls.length : Int) - (sumL ls : Int)) (by omega) (by omega) W h)
      have n3 : ¬ (1048576 - totP ps bs < 0) := by omega
      have n4 : ¬ (1048576 - totP ps bs - (ls.length : Int) - (sumL ls : Int) < 0) := by omega
      by_cases hd : (ss.length : Int) + (sumS ss : Int) ≤ 1048576 - totP ps bs - (ls.length : Int) - (sumL ls : Int)
      · rw [szB_yes hd] at HD1
        rw [szT_yes (by omega)]
        have d3 : decide (1048576 - totP ps bs - (ls.length : Int) - (sumL ls : Int) - (ss.length : Int) - (sumS ss : Int) < 0) = false := decide_eq_false (by omega)
        have n5 : ¬ (1048576 - totP ps bs - (ls.length : Int) - (sumL ls : Int) - (ss.length : Int) - (sumS ss : Int) < 0) := by omega
        have HE := hidP (show 1048576 - totP ps bs - (ls.length : Int) - (sumL ls : Int) - (ss.length : Int) - (sumS ss : Int) = 1048576 - (totP ps bs + totB ls + totD ss) by omega)
        generalize 1048576 - totP ps bs - (ls.length : Int) - (sumL ls : Int) - (ss.length : Int) - (sumS ss : Int) = z3 at *
        generalize 1048576 - totP ps bs - (ls.length : Int) - (sumL ls : Int) = z2 at *
        generalize 1048576 - totP ps bs = z1 at *
        clear HB HD
        go_enter Tryz.func5, Tryz.ntmps5
        go_wp2_with fail
        obtain ⟨bx0_W1, bx1_W1, bx2_W1, bx3_W1, bx4_W1, bx5_W1, bx6_W1, bx7_W1⟩ := bx8 w 33 (.slice ap np cp) (.slice ab nb cb) (.slice al nl cl) (.int .i64 T) (.int .i64 N) (.slice aS ns cs) (.int .i64 X) (.int .i64 C)
        have bxF_W1 : ∀ o, (w.alloc (.cells #[.slice ap np cp, .slice ab nb cb, .slice al nl cl, .int .i64 T, .int .i64 N, .slice aS ns cs, .int .i64 X, .int .i64 C] 33)).frozen? ⟨w.heap.size, o, none⟩ = false := fun o => by simp [go_sem]
        have bxL_W1 : w.heap.size < (w.alloc (.cells #[.slice ap np cp, .slice ab nb cb, .slice al nl cl, .int .i64 T, .int .i64 N, .slice aS ns cs, .int .i64 X, .int .i64 C] 33)).heap.size := by simp
        have ab_W1 := alloc_below w (.cells #[.slice ap np cp, .slice ab nb cb, .slice al nl cl, .int .i64 T, .int .i64 N, .slice aS ns cs, .int .i64 X, .int .i64 C] 33)
        have as_W1 : Hid ((w.alloc (.cells #[.slice ap np cp, .slice ab nb cb, .slice al nl cl, .int .i64 T, .int .i64 N, .slice aS ns cs, .int .i64 X, .int .i64 C] 33)).heap.size = w.heap.size + 1) := hidP (by simp)
        generalize w.alloc (.cells #[.slice ap np cp, .slice ab nb cb, .slice al nl cl, .int .i64 T, .int .i64 N, .slice aS ns cs, .int .i64 X, .int .i64 C] 33) = W1 at *
        have acc_W1 := hidP (ab_W1)
        have sz_W1 : Hid (w.heap.size ≤ W1.heap.size) := hidP ab_W1.size
        clear ab_W1 
        refine (HP.out _ acc_W1.out).mono ?_
        rintro e u0 ⟨rfl, hb0⟩
        have bx0_u0 := (hb0.cell bxL_W1).trans bx0_W1
        have bx1_u0 := (hb0.cell bxL_W1).trans bx1_W1
        have bx2_u0 := (hb0.cell bxL_W1).trans bx2_W1
        have bx3_u0 := (hb0.cell bxL_W1).trans bx3_W1
        have bx4_u0 := (hb0.cell bxL_W1).trans bx4_W1
        have bx5_u0 := (hb0.cell bxL_W1).trans bx5_W1
        have bx6_u0 := (hb0.cell bxL_W1).trans bx6_W1
        have bx7_u0 := (hb0.cell bxL_W1).trans bx7_W1
        have bxF_u0 : ∀ o, u0.frozen? ⟨w.heap.size, o, none⟩ = false := fun o => (hb0.frozen bxL_W1).trans (bxF_W1 o)
        have bxL_u0 : w.heap.size < u0.heap.size := Nat.lt_of_lt_of_le bxL_W1 hb0.size
        have acc_u0 := hidP (acc_W1.out.trans (hb0.mono acc_W1.out.size))
        have sz_u0 : Hid (W1.heap.size ≤ u0.heap.size) := hidP hb0.size
        clear hb0 bx0_W1 bx1_W1 bx2_W1 bx3_W1 bx4_W1 bx5_W1 bx6_W1 bx7_W1 bxF_W1 bxL_W1 acc_W1
        go_wp2_with fail
        refine (HB1.out _ acc_u0.out).mono ?_
        rintro e u1 ⟨rfl, hb1⟩
        have bx0_u1 := (hb1.cell bxL_u0).trans bx0_u0
        have bx1_u1 := (hb1.cell bxL_u0).trans bx1_u0
        have bx2_u1 := (hb1.cell bxL_u0).trans bx2_u0
        have bx3_u1 := (hb1.cell bxL_u0).trans bx3_u0
        have bx4_u1 := (hb1.cell bxL_u0).trans bx4_u0
        have bx5_u1 := (hb1.cell bxL_u0).trans bx5_u0
        have bx6_u1 := (hb1.cell bxL_u0).trans bx6_u0
        have bx7_u1 := (hb1.cell bxL_u0).trans bx7_u0
        have bxF_u1 : ∀ o, u1.frozen? ⟨w.heap.size, o, none⟩ = false := fun o => (hb1.frozen bxL_u0).trans (bxF_u0 o)
        have bxL_u1 : w.heap.size < u1.heap.size := Nat.lt_of_lt_of_le bxL_u0 hb1.size
        have acc_u1 := hidP (acc_u0.out.trans (hb1.mono acc_u0.out.size))
        have sz_u1 : Hid (u0.heap.size ≤ u1.heap.size) := hidP hb1.size
        clear hb1 bx0_u0 bx1_u0 bx2_u0 bx3_u0 bx4_u0 bx5_u0 bx6_u0 bx7_u0 bxF_u0 bxL_u0 acc_u0
        go_wp2_with fail
        refine (HD1.out _ acc_u1.out).mono ?_
        rintro e u2 ⟨rfl, hb2⟩
        have bx0_u2 := (hb2.cell bxL_u1).trans bx0_u1
        have bx1_u2 := (hb2.cell bxL_u1).trans bx1_u1
        have bx2_u2 := (hb2.cell bxL_u1).trans bx2_u1
        have bx3_u2 := (hb2.cell bxL_u1).trans bx3_u1
        have bx4_u2 := (hb2.cell bxL_u1).trans bx4_u1
        have bx5_u2 := (hb2.cell bxL_u1).trans bx5_u1
        have bx6_u2 := (hb2.cell bxL_u1).trans bx6_u1
        have bx7_u2 := (hb2.cell bxL_u1).trans bx7_u1
        have bxF_u2 : ∀ o, u2.frozen? ⟨w.heap.size, o, none⟩ = false := fun o => (hb2.frozen bxL_u1).trans (bxF_u1 o)
        have bxL_u2 : w.heap.size < u2.heap.size := Nat.lt_of_lt_of_le bxL_u1 hb2.size
        have acc_u2 := hidP (acc_u1.out.trans (hb2.mono acc_u1.out.size))
        have sz_u2 : Hid (u1.heap.size ≤ u2.heap.size) := hidP hb2.size
        clear hb2 bx0_u1 bx1_u1 bx2_u1 bx3_u1 bx4_u1 bx5_u1 bx6_u1 bx7_u1 bxF_u1 bxL_u1 acc_u1
        go_wp2_with fail
        go_ret
        exact ⟨ret_i HE.out, acc_u2.out⟩
      · rw [szB_no hd] at HD1
        rw [szT_no (by omega)]
        generalize 1048576 - totP ps bs - (ls.length : Int) - (sumL ls : Int) = z2 at *
        generalize 1048576 - totP ps bs = z1 at *
        clear HB HD
        go_enter Tryz.func5, Tryz.ntmps5
        go_wp2_with fail
        obtain ⟨bx0_W1, bx1_W1, bx2_W1, bx3_W1, bx4_W1, bx5_W1, bx6_W1, bx7_W1⟩ := bx8 w 33 (.slice ap np cp) (.slice ab nb cb) (.slice al nl cl) (.int .i64 T) (.int .i64 N) (.slice aS ns cs) (.int .i64 X) (.int .i64 C)
        have bxF_W1 : ∀ o, (w.alloc (.cells #[.slice ap np cp, .slice ab nb cb, .slice al nl cl, .int .i64 T, .int .i64 N, .slice aS ns cs, .int .i64 X, .int .i64 C] 33)).frozen? ⟨w.heap.size, o, none⟩ = false := fun o => by simp [go_sem]
        have bxL_W1 : w.heap.size < (w.alloc (.cells #[.slice ap np cp, .slice ab nb cb, .slice al nl cl, .int .i64 T, .int .i64 N, .slice aS ns cs, .int .i64 X, .int .i64 C] 33)).heap.size := by simp
        have ab_W1 := alloc_below w (.cells #[.slice ap np cp, .slice ab nb cb, .slice al nl cl, .int .i64 T, .int .i64 N, .slice aS ns cs, .int .i64 X, .int .i64 C] 33)
        have as_W1 : Hid ((w.alloc (.cells #[.slice ap np cp, .slice ab nb cb, .slice al nl cl, .int .i64 T, .int .i64 N, .slice aS ns cs, .int .i64 X, .int .i64 C] 33)).heap.size = w.heap.size + 1) := hidP (by simp)
        generalize w.alloc (.cells #[.slice ap np cp, .slice ab nb cb, .slice al nl cl, .int .i64 T, .int .i64 N, .slice aS ns cs, .int .i64 X, .int .i64 C] 33) = W1 at *
        have acc_W1 := hidP (ab_W1)
        have sz_W1 : Hid (w.heap.size ≤ W1.heap.size) := hidP ab_W1.size
        clear ab_W1 
        refine (HP.out _ acc_W1.out).mono ?_
        rintro e u0 ⟨rfl, hb0⟩
        have bx0_u0 := (hb0.cell bxL_W1).trans bx0_W1
        have bx1_u0 := (hb0.cell bxL_W1).trans bx1_W1
        have bx2_u0 := (hb0.cell bxL_W1).trans bx2_W1
        have bx3_u0 := (hb0.cell bxL_W1).trans bx3_W1
        have bx4_u0 := (hb0.cell bxL_W1).trans bx4_W1
        have bx5_u0 := (hb0.cell bxL_W1).trans bx5_W1
        have bx6_u0 := (hb0.cell bxL_W1).trans bx6_W1
        have bx7_u0 := (hb0.cell bxL_W1).trans bx7_W1
        have bxF_u0 : ∀ o, u0.frozen? ⟨w.heap.size, o, none⟩ = false := fun o => (hb0.frozen bxL_W1).trans (bxF_W1 o)
        have bxL_u0 : w.heap.size < u0.heap.size := Nat.lt_of_lt_of_le bxL_W1 hb0.size
        have acc_u0 := hidP (acc_W1.out.trans (hb0.mono acc_W1.out.size))
        have sz_u0 : Hid (W1.heap.size ≤ u0.heap.size) := hidP hb0.size
        clear hb0 bx0_W1 bx1_W1 bx2_W1 bx3_W1 bx4_W1 bx5_W1 bx6_W1 bx7_W1 bxF_W1 bxL_W1 acc_W1
        go_wp2_with fail
        refine (HB1.out _ acc_u0.out).mono ?_
        rintro e u1 ⟨rfl, hb1⟩
        have bx0_u1 := (hb1.cell bxL_u0).trans bx0_u0
        have bx1_u1 := (hb1.cell bxL_u0).trans bx1_u0
        have bx2_u1 := (hb1.cell bxL_u0).trans bx2_u0
        have bx3_u1 := (hb1.cell bxL_u0).trans bx3_u0
        have bx4_u1 := (hb1.cell bxL_u0).trans bx4_u0
        have bx5_u1 := (hb1.cell bxL_u0).trans bx5_u0
        have bx6_u1 := (hb1.cell bxL_u0).trans bx6_u0
        have bx7_u1 := (hb1.cell bxL_u0).trans bx7_u0
        have bxF_u1 : ∀ o, u1.frozen? ⟨w.heap.size, o, none⟩ = false := fun o => (hb1.frozen bxL_u0).trans (bxF_u0 o)
        have bxL_u1 : w.heap.size < u1.heap.size := Nat.lt_of_lt_of_le bxL_u0 hb1.size
        have acc_u1 := hidP (acc_u0.out.trans (hb1.mono acc_u0.out.size))
        have sz_u1 : Hid (u0.heap.size ≤ u1.heap.size) := hidP hb1.size
        clear hb1 bx0_u0 bx1_u0 bx2_u0 bx3_u0 bx4_u0 bx5_u0 bx6_u0 bx7_u0 bxF_u0 bxL_u0 acc_u0
        go_wp2_with fail
        refine (HD1.out _ acc_u1.out).mono ?_
        rintro e u2 ⟨rfl, hb2⟩
        have bx0_u2 := (hb2.cell bxL_u1).trans bx0_u1
        have bx1_u2 := (hb2.cell bxL_u1).trans bx1_u1
        have bx2_u2 := (hb2.cell bxL_u1).trans bx2_u1
        have bx3_u2 := (hb2.cell bxL_u1).trans bx3_u1
        have bx4_u2 := (hb2.cell bxL_u1).trans bx4_u1
        have bx5_u2 := (hb2.cell bxL_u1).trans bx5_u1
        have bx6_u2 := (hb2.cell bxL_u1).trans bx6_u1
        have bx7_u2 := (hb2.cell bxL_u1).trans bx7_u1
        have bxF_u2 : ∀ o, u2.frozen? ⟨w.heap.size, o, none⟩ = false := fun o => (hb2.frozen bxL_u1).trans (bxF_u1 o)
        have bxL_u2 : w.heap.size < u2.heap.size := Nat.lt_of_lt_of_le bxL_u1 hb2.size
        have acc_u2 := hidP (acc_u1.out.trans (hb2.mono acc_u1.out.size))
        have sz_u2 : Hid (u1.heap.size ≤ u2.heap.size) := hidP hb2.size
        clear hb2 bx0_u1 bx1_u1 bx2_u1 bx3_u1 bx4_u1 bx5_u1 bx6_u1 bx7_u1 bxF_u1 bxL_u1 acc_u1
        go_wp2_with fail
        go_ret
        exact ⟨rfl, acc_u2.out⟩
    · have HB1 := hidP (fun W h => HB.out (1048576 - totP ps bs) (by omega) (by omega) W h)
      rw [szB_no hb] at HB1
      have n2 := totD_nn ss
      rw [szT_no (by omega)]
      have n3 : ¬ (1048576 - totP ps bs < 0) := by omega
      generalize 1048576 - totP ps bs = z1 at *
      clear HB HD
      go_enter Tryz.func5, Tryz.ntmps5
      go_wp2_with fail
      obtain ⟨bx0_W1, bx1_W1, bx2_W1, bx3_W1, bx4_W1, bx5_W1, bx6_W1, bx7_W1⟩ := bx8 w 33 (.slice ap np cp) (.slice ab nb cb) (.slice al nl cl) (.int .i64 T) (.int .i64 N) (.slice aS ns cs) (.int .i64 X) (.int .i64 C)
      have bxF_W1 : ∀ o, (w.alloc (.cells #[.slice ap np cp, .slice ab nb cb, .slice al nl cl, .int .i64 T, .int .i64 N, .slice aS ns cs, .int .i64 X, .int .i64 C] 33)).frozen? ⟨w.heap.size, o, none⟩ = false := fun o => by simp [go_sem]
      have bxL_W1 : w.heap.size < (w.alloc (.cells #[.slice ap np cp, .slice ab nb cb, .slice al nl cl, .int .i64 T, .int .i64 N, .slice aS ns cs, .int .i64 X, .int .i64 C] 33)).heap.size := by simp
      have ab_W1 := alloc_below w (.cells #[.slice ap np cp, .slice ab nb cb, .slice al nl cl, .int .i64 T, .int .i64 N, .slice aS ns cs, .int .i64 X, .int .i64 C] 33)
      have as_W1 : Hid ((w.alloc (.cells #[.slice ap np cp, .slice ab nb cb, .slice al nl cl, .int .i64 T, .int .i64 N, .slice aS ns cs, .int .i64 X, .int .i64 C] 33)).heap.size = w.heap.size + 1) := hidP (by simp)
      generalize w.alloc (.cells #[.slice ap np cp, .slice ab nb cb, .slice al nl cl, .int .i64 T, .int .i64 N, .slice aS ns cs, .int .i64 X, .int .i64 C] 33) = W1 at *
      have acc_W1 := hidP (ab_W1)
      have sz_W1 : Hid (w.heap.size ≤ W1.heap.size) := hidP ab_W1.size
      clear ab_W1 
      refine (HP.out _ acc_W1.out).mono ?_
      rintro e u0 ⟨rfl, hb0⟩
      have bx0_u0 := (hb0.cell bxL_W1).trans bx0_W1
      have bx1_u0 := (hb0.cell bxL_W1).trans bx1_W1
      have bx2_u0 := (hb0.cell bxL_W1).trans bx2_W1
      have bx3_u0 := (hb0.cell bxL_W1).trans bx3_W1
      have bx4_u0 := (hb0.cell bxL_W1).trans bx4_W1
      have bx5_u0 := (hb0.cell bxL_W1).trans bx5_W1
      have bx6_u0 := (hb0.cell bxL_W1).trans bx6_W1
      have bx7_u0 := (hb0.cell bxL_W1).trans bx7_W1
      have bxF_u0 : ∀ o, u0.frozen? ⟨w.heap.size, o, none⟩ = false := fun o => (hb0.frozen bxL_W1).trans (bxF_W1 o)
      have bxL_u0 : w.heap.size < u0.heap.size := Nat.lt_of_lt_of_le bxL_W1 hb0.size
      have acc_u0 := hidP (acc_W1.out.trans (hb0.mono acc_W1.out.size))
      have sz_u0 : Hid (W1.heap.size ≤ u0.heap.size) := hidP hb0.size
      clear hb0 bx0_W1 bx1_W1 bx2_W1 bx3_W1 bx4_W1 bx5_W1 bx6_W1 bx7_W1 bxF_W1 bxL_W1 acc_W1
      go_wp2_with fail
      refine (HB1.out _ acc_u0.out).mono ?_
      rintro e u1 ⟨rfl, hb1⟩
      have bx0_u1 := (hb1.cell bxL_u0).trans bx0_u0
      have bx1_u1 := (hb1.cell bxL_u0).trans bx1_u0
      have bx2_u1 := (hb1.cell bxL_u0).trans bx2_u0
      have bx3_u1 := (hb1.cell bxL_u0).trans bx3_u0
      have bx4_u1 := (hb1.cell bxL_u0).trans bx4_u0
      have bx5_u1 := (hb1.cell bxL_u0).trans bx5_u0
      have bx6_u1 := (hb1.cell bxL_u0).trans bx6_u0
      have bx7_u1 := (hb1.cell bxL_u0).trans bx7_u0
      have bxF_u1 : ∀ o, u1.frozen? ⟨w.heap.size, o, none⟩ = false := fun o => (hb1.frozen bxL_u0).trans (bxF_u0 o)
      have bxL_u1 : w.heap.size < u1.heap.size := Nat.lt_of_lt_of_le bxL_u0 hb1.size
      have acc_u1 := hidP (acc_u0.out.trans (hb1.mono acc_u0.out.size))
      have sz_u1 : Hid (u0.heap.size ≤ u1.heap.size) := hidP hb1.size
      clear hb1 bx0_u0 bx1_u0 bx2_u0 bx3_u0 bx4_u0 bx5_u0 bx6_u0 bx7_u0 bxF_u0 bxL_u0 acc_u0
      go_wp2_with fail
      go_ret
      exact ⟨rfl, acc_u1.out⟩
  · rw [szT_no ht] at HP
    have n2 := totD_nn ss
    have n3 := totB_nn ls
    rw [szT_no (by omega)]
    clear HB HD
    go_enter Tryz.func5, Tryz.ntmps5
    go_wp2_with fail
    obtain ⟨bx0_W1, bx1_W1, bx2_W1, bx3_W1, bx4_W1, bx5_W1, bx6_W1, bx7_W1⟩ := bx8 w 33 (.slice ap np cp) (.slice ab nb cb) (.slice al nl cl) (.int .i64 T) (.int .i64 N) (.slice aS ns cs) (.int .i64 X) (.int .i64 C)
    have bxF_W1 : ∀ o, (w.alloc (.cells #[.slice ap np cp, .slice ab nb cb, .slice al nl cl, .int .i64 T, .int .i64 N, .slice aS ns cs, .int .i64 X, .int .i64 C] 33)).frozen? ⟨w.heap.size, o, none⟩ = false := fun o => by simp [go_sem]
    have bxL_W1 : w.heap.size < (w.alloc (.cells #[.slice ap np cp, .slice ab nb cb, .slice al nl cl, .int .i64 T, .int .i64 N, .slice aS ns cs, .int .i64 X, .int .i64 C] 33)).heap.size := by simp
    have ab_W1 := alloc_below w (.cells #[.slice ap np cp, .slice ab nb cb, .slice al nl cl, .int .i64 T, .int .i64 N, .slice aS ns cs, .int .i64 X, .int .i64 C] 33)
    have as_W1 : Hid ((w.alloc (.cells #[.slice ap np cp, .slice ab nb cb, .slice al nl cl, .int .i64 T, .int .i64 N, .slice aS ns cs, .int .i64 X, .int .i64 C] 33)).heap.size = w.heap.size + 1) := hidP (by simp)
    generalize w.alloc (.cells #[.slice ap np cp, .slice ab nb cb, .slice al nl cl, .int .i64 T, .int .i64 N, .slice aS ns cs, .int .i64 X, .int .i64 C] 33) = W1 at *
    have acc_W1 := hidP (ab_W1)
    have sz_W1 : Hid (w.heap.size ≤ W1.heap.size) := hidP ab_W1.size
    clear ab_W1 
    refine (HP.out _ acc_W1.out).mono ?_
    rintro e u0 ⟨rfl, hb0⟩
    have bx0_u0 := (hb0.cell bxL_W1).trans bx0_W1
    have bx1_u0 := (hb0.cell bxL_W1).trans bx1_W1
    have bx2_u0 := (hb0.cell bxL_W1).trans bx2_W1
    have bx3_u0 := (hb0.cell bxL_W1).trans bx3_W1
    have bx4_u0 := (hb0.cell bxL_W1).trans bx4_W1
    have bx5_u0 := (hb0.cell bxL_W1).trans bx5_W1
    have bx6_u0 := (hb0.cell bxL_W1).trans bx6_W1
    have bx7_u0 := (hb0.cell bxL_W1).trans bx7_W1
    have bxF_u0 : ∀ o, u0.frozen? ⟨w.heap.size, o, none⟩ = false := fun o => (hb0.frozen bxL_W1).trans (bxF_W1 o)
    have bxL_u0 : w.heap.size < u0.heap.size := Nat.lt_of_lt_of_le bxL_W1 hb0.size
    have acc_u0 := hidP (acc_W1.out.trans (hb0.mono acc_W1.out.size))
    have sz_u0 : Hid (W1.heap.size ≤ u0.heap.size) := hidP hb0.size
    clear hb0 bx0_W1 bx1_W1 bx2_W1 bx3_W1 bx4_W1 bx5_W1 bx6_W1 bx7_W1 bxF_W1 bxL_W1 acc_W1
    go_wp2_with fail
    go_ret
    exact ⟨rfl, acc_u0.out⟩

set_option maxRecDepth 10000 in
set_option maxHeartbeats 4000000 in
theorem eqState_same (ap : Option Addr) (np cp : Nat) (ab : Option Addr) (nb cb : Nat) (al : Option Addr) (nl cl : Nat) (T N : Int) (aS : Option Addr) (ns cs : Nat) (X C : Int) (ps : List Pl) (bs : List Bk) (ls : List Ls) (ss : List Ss) (ap' : Option Addr) (cp' : Nat) (ab' : Option Addr) (cb' : Nat) (al' : Option Addr) (cl' : Nat) (aS' : Option Addr) (cs' : Nat) (w : World) (hnp : np = ps.length) (hnb : nb = bs.length) (hnl : nl = ls.length) (hns : ns = ss.length) (hP : RowG KPl w ap ps) (hK : RowG KBk w ab bs) (hL : RowG KLs w al ls) (hS : RowG KSs w aS ss) (hP' : RowG KPl w ap' ps) (hK' : RowG KBk w ab' bs) (hL' : RowG KLs w al' ls) (hS' : RowG KSs w aS' ss) (hlp : np ≤ 9000000000) (hlb : nb ≤ 9000000000) (hll : nl ≤ 9000000000) (hls : ns ≤ 9000000000) :
    Calls Tryz.prog 10 #[.agg #[.slice ap np cp, .slice ab nb cb, .slice al nl cl, .int .i64 T, .int .i64 N, .slice aS ns cs, .int .i64 X, .int .i64 C], .agg #[.slice ap' np cp', .slice ab' nb cb', .slice al' nl cl', .int .i64 T, .int .i64 N, .slice aS' ns cs', .int .i64 X, .int .i64 C]] w fun e w' => e = .returned (.bool true) ∧ Below w.heap.size w w' := by
  have HP := hidP (fun W h => eqPlan_same ap ap' np cp cp' ab ab' nb cb cb' ps bs W hnp hnb (hP.later h) (hP'.later h) (hK.later h) (hK'.later h) hlp hlb)
  have HB := hidP (fun W h => eqBook_same al al' nl cl cl' T N ls W hnl (hL.later h) (hL'.later h) hll)
  have HD := hidP (fun W h => eqDesk_same aS aS' ns cs cs' X ss W hns (hS.later h) (hS'.later h) hls)
  clear hP hK hL hS hnp hnb hnl hns hP' hK' hL' hS'
  go_enter Tryz.func10, Tryz.ntmps10
  go_wp2_with fail
  obtain ⟨ax0_W1, ax1_W1, ax2_W1, ax3_W1, ax4_W1, ax5_W1, ax6_W1, ax7_W1⟩ := bx8 w 48 (.slice ap np cp) (.slice ab nb cb) (.slice al nl cl) (.int .i64 T) (.int .i64 N) (.slice aS ns cs) (.int .i64 X) (.int .i64 C)
  have axF_W1 : ∀ o, (w.alloc (.cells #[.slice ap np cp, .slice ab nb cb, .slice al nl cl, .int .i64 T, .int .i64 N, .slice aS ns cs, .int .i64 X, .int .i64 C] 48)).frozen? ⟨w.heap.size, o, none⟩ = false := fun o => by simp [go_sem]
  have axL_W1 : w.heap.size < (w.alloc (.cells #[.slice ap np cp, .slice ab nb cb, .slice al nl cl, .int .i64 T, .int .i64 N, .slice aS ns cs, .int .i64 X, .int .i64 C] 48)).heap.size := by simp
  have ab_W1 := alloc_below w (.cells #[.slice ap np cp, .slice ab nb cb, .slice al nl cl, .int .i64 T, .int .i64 N, .slice aS ns cs, .int .i64 X, .int .i64 C] 48)
  have as_W1 : Hid ((w.alloc (.cells #[.slice ap np cp, .slice ab nb cb, .slice al nl cl, .int .i64 T, .int .i64 N, .slice aS ns cs, .int .i64 X, .int .i64 C] 48)).heap.size = w.heap.size + 1) := hidP (by simp)
  generalize w.alloc (.cells #[.slice ap np cp, .slice ab nb cb, .slice al nl cl, .int .i64 T, .int .i64 N, .slice aS ns cs, .int .i64 X, .int .i64 C] 48) = W1 at *
  have acc_W1 := hidP (ab_W1)
  have sz_W1 : Hid (w.heap.size ≤ W1.heap.size) := hidP ab_W1.size
  clear ab_W1 
  obtain ⟨bx0_W2, bx1_W2, bx2_W2, bx3_W2, bx4_W2, bx5_W2, bx6_W2, bx7_W2⟩ := bx8 W1 48 (.slice ap' np cp') (.slice ab' nb cb') (.slice al' nl cl') (.int .i64 T) (.int .i64 N) (.slice aS' ns cs') (.int .i64 X) (.int .i64 C)
  have bxF_W2 : ∀ o, (W1.alloc (.cells #[.slice ap' np cp', .slice ab' nb cb', .slice al' nl cl', .int .i64 T, .int .i64 N, .slice aS' ns cs', .int .i64 X, .int .i64 C] 48)).frozen? ⟨W1.heap.size, o, none⟩ = false := fun o => by simp [go_sem]
  have bxL_W2 : W1.heap.size < (W1.alloc (.cells #[.slice ap' np cp', .slice ab' nb cb', .slice al' nl cl', .int .i64 T, .int .i64 N, .slice aS' ns cs', .int .i64 X, .int .i64 C] 48)).heap.size := by simp
  have ab_W2 := alloc_below W1 (.cells #[.slice ap' np cp', .slice ab' nb cb', .slice al' nl cl', .int .i64 T, .int .i64 N, .slice aS' ns cs', .int .i64 X, .int .i64 C] 48)
  have as_W2 : Hid ((W1.alloc (.cells #[.slice ap' np cp', .slice ab' nb cb', .slice al' nl cl', .int .i64 T, .int .i64 N, .slice aS' ns cs', .int .i64 X, .int .i64 C] 48)).heap.size = W1.heap.size + 1) := hidP (by simp)
  generalize W1.alloc (.cells #[.slice ap' np cp', .slice ab' nb cb', .slice al' nl cl', .int .i64 T, .int .i64 N, .slice aS' ns cs', .int .i64 X, .int .i64 C] 48) = W2 at *
  have ax0_W2 := (ab_W2.cell axL_W1).trans ax0_W1
  have ax1_W2 := (ab_W2.cell axL_W1).trans ax1_W1
  have ax2_W2 := (ab_W2.cell axL_W1).trans ax2_W1
  have ax3_W2 := (ab_W2.cell axL_W1).trans ax3_W1
  have ax4_W2 := (ab_W2.cell axL_W1).trans ax4_W1
  have ax5_W2 := (ab_W2.cell axL_W1).trans ax5_W1
  have ax6_W2 := (ab_W2.cell axL_W1).trans ax6_W1
  have ax7_W2 := (ab_W2.cell axL_W1).trans ax7_W1
  have axF_W2 : ∀ o, W2.frozen? ⟨w.heap.size, o, none⟩ = false := fun o => (ab_W2.frozen axL_W1).trans (axF_W1 o)
  have axL_W2 : w.heap.size < W2.heap.size := Nat.lt_of_lt_of_le axL_W1 ab_W2.size
  have acc_W2 := hidP (acc_W1.out.trans (ab_W2.mono acc_W1.out.size))
  have sz_W2 : Hid (W1.heap.size ≤ W2.heap.size) := hidP ab_W2.size
  clear ab_W2 ax0_W1 ax1_W1 ax2_W1 ax3_W1 ax4_W1 ax5_W1 ax6_W1 ax7_W1 axF_W1 axL_W1 acc_W1
  simp only [as_W1.out] at bx0_W2 bx1_W2 bx2_W2 bx3_W2 bx4_W2 bx5_W2 bx6_W2 bx7_W2 bxF_W2 bxL_W2
  refine (HP.out _ acc_W2.out).mono ?_
  rintro e u0 ⟨rfl, hb0⟩
  have ax0_u0 := (hb0.cell axL_W2).trans ax0_W2
  have ax1_u0 := (hb0.cell axL_W2).trans ax1_W2
  have ax2_u0 := (hb0.cell axL_W2).trans ax2_W2
  have ax3_u0 := (hb0.cell axL_W2).trans ax3_W2
  have ax4_u0 := (hb0.cell axL_W2).trans ax4_W2
  have ax5_u0 := (hb0.cell axL_W2).trans ax5_W2
  have ax6_u0 := (hb0.cell axL_W2).trans ax6_W2
  have ax7_u0 := (hb0.cell axL_W2).trans ax7_W2
  have axF_u0 : ∀ o, u0.frozen? ⟨w.heap.size, o, none⟩ = false := fun o => (hb0.frozen axL_W2).trans (axF_W2 o)
  have axL_u0 : w.heap.size < u0.heap.size := Nat.lt_of_lt_of_le axL_W2 hb0.size
  have bx0_u0 := (hb0.cell bxL_W2).trans bx0_W2
  have bx1_u0 := (hb0.cell bxL_W2).trans bx1_W2
  have bx2_u0 := (hb0.cell bxL_W2).trans bx2_W2
  have bx3_u0 := (hb0.cell bxL_W2).trans bx3_W2
  have bx4_u0 := (hb0.cell bxL_W2).trans bx4_W2
  have bx5_u0 := (hb0.cell bxL_W2).trans bx5_W2
  have bx6_u0 := (hb0.cell bxL_W2).trans bx6_W2
  have bx7_u0 := (hb0.cell bxL_W2).trans bx7_W2
  have bxF_u0 : ∀ o, u0.frozen? ⟨(w.heap.size + 1), o, none⟩ = false := fun o => (hb0.frozen bxL_W2).trans (bxF_W2 o)
  have bxL_u0 : (w.heap.size + 1) < u0.heap.size := Nat.lt_of_lt_of_le bxL_W2 hb0.size
  have acc_u0 := hidP (acc_W2.out.trans (hb0.mono acc_W2.out.size))
  have sz_u0 : Hid (W2.heap.size ≤ u0.heap.size) := hidP hb0.size
  clear hb0 ax0_W2 ax1_W2 ax2_W2 ax3_W2 ax4_W2 ax5_W2 ax6_W2 ax7_W2 axF_W2 axL_W2 bx0_W2 bx1_W2 bx2_W2 bx3_W2 bx4_W2 bx5_W2 bx6_W2 bx7_W2 bxF_W2 bxL_W2 acc_W2
  go_wp2_with fail
  refine (HB.out _ acc_u0.out).mono ?_
  rintro e u1 ⟨rfl, hb1⟩
  have ax0_u1 := (hb1.cell axL_u0).trans ax0_u0
  have ax1_u1 := (hb1.cell axL_u0).trans ax1_u0
  have ax2_u1 := (hb1.cell axL_u0).trans ax2_u0
  have ax3_u1 := (hb1.cell axL_u0).trans ax3_u0
  have ax4_u1 := (hb1.cell axL_u0).trans ax4_u0
  have ax5_u1 := (hb1.cell axL_u0).trans ax5_u0
  have ax6_u1 := (hb1.cell axL_u0).trans ax6_u0
  have ax7_u1 := (hb1.cell axL_u0).trans ax7_u0
  have axF_u1 : ∀ o, u1.frozen? ⟨w.heap.size, o, none⟩ = false := fun o => (hb1.frozen axL_u0).trans (axF_u0 o)
  have axL_u1 : w.heap.size < u1.heap.size := Nat.lt_of_lt_of_le axL_u0 hb1.size
  have bx0_u1 := (hb1.cell bxL_u0).trans bx0_u0
  have bx1_u1 := (hb1.cell bxL_u0).trans bx1_u0
  have bx2_u1 := (hb1.cell bxL_u0).trans bx2_u0
  have bx3_u1 := (hb1.cell bxL_u0).trans bx3_u0
  have bx4_u1 := (hb1.cell bxL_u0).trans bx4_u0
  have bx5_u1 := (hb1.cell bxL_u0).trans bx5_u0
  have bx6_u1 := (hb1.cell bxL_u0).trans bx6_u0
  have bx7_u1 := (hb1.cell bxL_u0).trans bx7_u0
  have bxF_u1 : ∀ o, u1.frozen? ⟨(w.heap.size + 1), o, none⟩ = false := fun o => (hb1.frozen bxL_u0).trans (bxF_u0 o)
  have bxL_u1 : (w.heap.size + 1) < u1.heap.size := Nat.lt_of_lt_of_le bxL_u0 hb1.size
  have acc_u1 := hidP (acc_u0.out.trans (hb1.mono acc_u0.out.size))
  have sz_u1 : Hid (u0.heap.size ≤ u1.heap.size) := hidP hb1.size
  clear hb1 ax0_u0 ax1_u0 ax2_u0 ax3_u0 ax4_u0 ax5_u0 ax6_u0 ax7_u0 axF_u0 axL_u0 bx0_u0 bx1_u0 bx2_u0 bx3_u0 bx4_u0 bx5_u0 bx6_u0 bx7_u0 bxF_u0 bxL_u0 acc_u0
  go_wp2_with fail
  refine (HD.out _ acc_u1.out).mono ?_
  rintro e u2 ⟨rfl, hb2⟩
  have ax0_u2 := (hb2.cell axL_u1).trans ax0_u1
  have ax1_u2 := (hb2.cell axL_u1).trans ax1_u1
  have ax2_u2 := (hb2.cell axL_u1).trans ax2_u1
  have ax3_u2 := (hb2.cell axL_u1).trans ax3_u1
  have ax4_u2 := (hb2.cell axL_u1).trans ax4_u1
  have ax5_u2 := (hb2.cell axL_u1).trans ax5_u1
  have ax6_u2 := (hb2.cell axL_u1).trans ax6_u1
  have ax7_u2 := (hb2.cell axL_u1).trans ax7_u1
  have axF_u2 : ∀ o, u2.frozen? ⟨w.heap.size, o, none⟩ = false := fun o => (hb2.frozen axL_u1).trans (axF_u1 o)
  have axL_u2 : w.heap.size < u2.heap.size := Nat.lt_of_lt_of_le axL_u1 hb2.size
  have bx0_u2 := (hb2.cell bxL_u1).trans bx0_u1
  have bx1_u2 := (hb2.cell bxL_u1).trans bx1_u1
  have bx2_u2 := (hb2.cell bxL_u1).trans bx2_u1
  have bx3_u2 := (hb2.cell bxL_u1).trans bx3_u1
  have bx4_u2 := (hb2.cell bxL_u1).trans bx4_u1
  have bx5_u2 := (hb2.cell bxL_u1).trans bx5_u1
  have bx6_u2 := (hb2.cell bxL_u1).trans bx6_u1
  have bx7_u2 := (hb2.cell bxL_u1).trans bx7_u1
  have bxF_u2 : ∀ o, u2.frozen? ⟨(w.heap.size + 1), o, none⟩ = false := fun o => (hb2.frozen bxL_u1).trans (bxF_u1 o)
  have bxL_u2 : (w.heap.size + 1) < u2.heap.size := Nat.lt_of_lt_of_le bxL_u1 hb2.size
  have acc_u2 := hidP (acc_u1.out.trans (hb2.mono acc_u1.out.size))
  have sz_u2 : Hid (u1.heap.size ≤ u2.heap.size) := hidP hb2.size
  clear hb2 ax0_u1 ax1_u1 ax2_u1 ax3_u1 ax4_u1 ax5_u1 ax6_u1 ax7_u1 axF_u1 axL_u1 bx0_u1 bx1_u1 bx2_u1 bx3_u1 bx4_u1 bx5_u1 bx6_u1 bx7_u1 bxF_u1 bxL_u1 acc_u1
  go_wp2_with fail
  go_ret
  exact ⟨rfl, acc_u2.out⟩

end Go.Proofs.YtngcbhbcocnbeaaGreat
