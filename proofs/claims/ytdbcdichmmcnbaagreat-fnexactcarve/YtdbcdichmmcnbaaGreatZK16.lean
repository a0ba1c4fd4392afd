/-
  The laws' eqAddr of two that are alike is true; nothing old in memory turns.
-/
import Derived.Test.YtdbcdichmmcnbaaGreatZK1
import Derived.Deep.RegionWith
import Derived.Deep.DeepCutAuto
import Derived.ProofKit
import Derived.Lib.SmallJoins
import Derived.Test.YtdbcdichmmcnbaaGreatZK11
import Derived.Carry
import Derived.Deep.Slices
import Derived.ChangeMaps5
import Derived.Test.YtdbcdichmmcnbaaGreatZK15
import Derived.Maps.OwnSet
import Derived.DeepKeys4
namespace Go.Proofs.YtdbcdichmmcnbaaGreat
open Go.RowKit

set_option maxHeartbeats 1000000 in
theorem eqA_same (s : Bool) (h l : Int) (w : World) :
    Calls Tryz.prog 72 #[.agg #[.bool s, .int .i64 h, .int .i64 l], .agg #[.bool s, .int .i64 h, .int .i64 l]] w fun e w' => e = .returned (.bool true) ∧ Below w.heap.size w w' := by
  go_enter Tryz.func72, Tryz.ntmps72
  go_wp2
  go_ret
  refine ⟨rfl, ?_⟩
  repeat (first | with_reducible exact Below.refl _ _ | (with_reducible refine Below.drew ?_) | (with_reducible refine Below.alloc ?_ ?_ _; rotate_left; (focus (first | omega | (simp; omega) | (simp; done)))) | (with_reducible refine Below.setCell ?_ ?_ _; rotate_left; (focus (first | omega | (simp; omega) | (simp; done)))))

end Go.Proofs.YtdbcdichmmcnbaaGreat

/-
  The laws' eqPrefix of two that are alike is true; nothing old in memory turns.
-/
namespace Go.Proofs.YtdbcdichmmcnbaaGreat
open Go.RowKit

set_option maxHeartbeats 1000000 in
theorem eqP_same (s : Bool) (h l b : Int) (w : World) :
    Calls Tryz.prog 24 #[.agg #[.bool s, .int .i64 h, .int .i64 l, .int .i64 b], .agg #[.bool s, .int .i64 h, .int .i64 l, .int .i64 b]] w fun e w' => e = .returned (.bool true) ∧ Below w.heap.size w w' := by
  go_enter Tryz.func24, Tryz.ntmps24
  go_wp2_with fail
  refine (eqA_same s h l _).mono ?_
  rintro e w1 ⟨rfl, hb1⟩
  have hz1 := hb1.size
  try simp at hz1
  have f10 : w.heap.size < w1.heap.size := by omega
  have f11 : w.heap.size + 1 < w1.heap.size := by omega
  refine olds_k (w.heap.size + 2) hb1 ?_ ?_
  · first | omega | (simp; omega) | (simp; done)
  intro hc1 hf1
  go_wp2_with fail
  go_ret
  refine ⟨rfl, ?_⟩
  repeat (first | with_reducible exact Below.refl _ _ | (with_reducible refine Below.drew ?_) | (with_reducible refine Below.alloc ?_ ?_ _; rotate_left; (focus (first | omega | (simp; omega) | (simp; done)))) | (with_reducible refine Below.setCell ?_ ?_ _; rotate_left; (focus (first | omega | (simp; omega) | (simp; done)))) | (with_reducible refine Below.trans ?_ (hb1.mono ?_); rotate_left; (focus (first | omega | (simp; omega) | (simp; done)))))

end Go.Proofs.YtdbcdichmmcnbaaGreat

/-
  A struct whose first field is a struct of three words and whose second is one word, by value: opened and shut. General: it names no program.
-/
namespace Go.Proofs.YtdbcdichmmcnbaaGreat
open Go.ChangeShapes Go.WideShapes Go.ChangeAt Go.RowKit Go.Joins Go.Deep

variable {H : Type} {enc : TypeId × Value → H} {P : Program} {w : World} {base : Nat} {spare : Nat → Bool} {held : Bool}

theorem open_pfx {r : Reach} {b0 : Nat} {t : TypeId} {f0 f1 g0 g1 g2 : Field} {v : Value} {d : DataW H} {p : List MemPlace} (hs : P.underlying t = some (.struct #[f0, f1])) (hg : P.underlying f0.type = some (.struct #[g0, g1, g2]))
    (hone : oneCellFields P #[g0, g1, g2] = true) (o0 : f0.offset = 0) (k0 : P.cellsOf f0.type = 3) (o1 : f1.offset = 3) (k1 : P.cellsOf f1.type = 1) (hC : P.cellsOf t = 4)
    (hv : Value.okWide P w r b0 t v) (h : DataW.Trod enc P w base spare held t v d p) :
    ∃ (v0 v1 v2 v3 : Value) (y0 y1 y2 y3 : DataW H × List MemPlace) (n : Nat), v = .agg #[v0, v1, v2, v3] ∧ d = .agg [.agg [y0.1, y1.1, y2.1], y3.1] ∧ p = (y0.2 ++ (y1.2 ++ y2.2)) ++ y3.2 ∧
      DataW.trod enc P w base spare held n g0.type [v0] = some y0 ∧ DataW.trod enc P w base spare held n g1.type [v1] = some y1 ∧ DataW.trod enc P w base spare held n g2.type [v2] = some y2 ∧ DataW.trod enc P w base spare held n f1.type [v3] = some y3 := by
  obtain ⟨cs, rfl, hsz⟩ := okWide_struct hs hv
  obtain ⟨c0, c1, c2, c3, rfl⟩ := array4 (hsz.trans hC)
  obtain ⟨fuel, hf⟩ := h
  obtain ⟨z0, z1, n, hx, _, h0, h1⟩ := trod_struct2 hs hf
  rw [o0, k0] at h0
  rw [o1, k1] at h1
  simp [Value.cells] at h0 h1
  obtain ⟨y0, y1, y2, m, hy, _, j0, j1, j2⟩ := trod_struct3 hg h0
  obtain ⟨p0, q0⟩ := hone_of hone 0 g0 rfl
  obtain ⟨p1, q1⟩ := hone_of hone 1 g1 rfl
  obtain ⟨p2, q2⟩ := hone_of hone 2 g2 rfl
  simp only [Prod.mk.injEq] at hx
  subst hy
  refine ⟨c0, c1, c2, c3, y0, y1, y2, z1, n + m, rfl, hx.1, hx.2, DataW.trod_le (show m ≤ n + m by omega) (by simpa [p0, q0] using j0), DataW.trod_le (show m ≤ n + m by omega) (by simpa [p1, q1] using j1), DataW.trod_le (show m ≤ n + m by omega) (by simpa [p2, q2] using j2), DataW.trod_le (by omega) h1⟩

theorem shut_pfx {t : TypeId} {f0 f1 g0 g1 g2 : Field} {v0 v1 v2 v3 : Value} {y0 y1 y2 y3 : DataW H × List MemPlace} (hs : P.underlying t = some (.struct #[f0, f1])) (hg : P.underlying f0.type = some (.struct #[g0, g1, g2]))
    (hone : oneCellFields P #[g0, g1, g2] = true) (o0 : f0.offset = 0) (k0 : P.cellsOf f0.type = 3) (o1 : f1.offset = 3) (k1 : P.cellsOf f1.type = 1) (hC : P.cellsOf t = 4)
    (t0 : ∃ n, DataW.trod enc P w base spare held n g0.type [v0] = some y0) (t1 : ∃ n, DataW.trod enc P w base spare held n g1.type [v1] = some y1) (t2 : ∃ n, DataW.trod enc P w base spare held n g2.type [v2] = some y2) (t3 : ∃ n, DataW.trod enc P w base spare held n f1.type [v3] = some y3) :
    DataW.Trod enc P w base spare held t (.agg #[v0, v1, v2, v3]) (.agg [.agg [y0.1, y1.1, y2.1], y3.1]) ((y0.2 ++ (y1.2 ++ y2.2)) ++ y3.2) := by
  obtain ⟨n, ha⟩ := shut_agg3 (w := w) (base := base) (spare := spare) (held := held) hg hone k0 t0 t1 t2
  obtain ⟨n3, t3⟩ := t3
  have ts := trod_struct2_mk (enc := enc) (w := w) (base := base) (spare := spare) (held := held) (n := n + n3) (cs := [v0, v1, v2, v3]) (y0 := (.agg [y0.1, y1.1, y2.1], y0.2 ++ (y1.2 ++ y2.2))) (y1 := y3) hs (by simp [hC])
    (by rw [o0, k0]; simpa [Value.cells] using DataW.trod_le (show n ≤ n + n3 by omega) ha) (by rw [o1, k1]; simpa using DataW.trod_le (show n3 ≤ n + n3 by omega) t3)
  exact ⟨_, by simpa [Value.cells] using ts⟩

end Go.Proofs.YtdbcdichmmcnbaaGreat

/-
  The prefixes of a row that came in, out of its reading.
-/
namespace Go.Proofs.YtdbcdichmmcnbaaGreat
open Go.ChangeShapes Go.WideShapes Go.ChangeAt Go.RowKit Go.Joins Go.Deep

theorem Tryz.ownP : ownKnob Tryz.prog.godebug = none := by kernel_rfl
theorem Tryz.laidOutP : laidOutB Tryz.prog = true := by kernel_rfl
theorem Tryz.cellsPP : Tryz.prog.cellsOf 59 = 4 := by kernel_rfl
theorem wfP {x : Int} (h : (Lit.int .i64 x).wf = true) : (BitVec.ofInt 64 x).toInt = x := by
  have : -9223372036854775808 ≤ x ∧ x ≤ 9223372036854775807 := by simpa [Lit.wf, IntKind.min, IntKind.max, IntKind.signed, IntKind.bits] using h
  rw [BitVec.toInt_ofInt, Int.bmod_def]
  split <;> omega

/-- One prefix out of its four cells. -/
theorem pf_of {H : Type} {enc : TypeId × Value → H} {W : World} {fuel : Nat} {cs : List Value} {x : DataW H × List MemPlace} (hl : cs.length = 4)
    (h : DataW.trod enc Tryz.prog W 0 (fun _ => true) true fuel 59 cs = some x) : ∃ q : Pf, cs = q.cs := by
  match cs, hl with
  | [c0, c1, c2, c3], _ =>
    obtain ⟨z0, z1, n, hx, _, h0, h1⟩ := trod_struct2 Tryz.underlying59 h
    obtain ⟨y0, y1, y2, m, hy, _, j0, j1, j2⟩ := trod_struct3 Tryz.underlying57 h0
    have k0 : Tryz.prog.cellsOf 57 = 3 := by kernel_rfl
    have ki : Tryz.prog.cellsOf 3 = 1 := by kernel_rfl
    have kb : Tryz.prog.cellsOf 4 = 1 := by kernel_rfl
    simp [k0, ki, kb] at h1 j0 j1 j2
    obtain ⟨s, e0, _⟩ := DataW.trod_bool Tryz.underlying4 j0
    obtain ⟨a, e1, _, wa⟩ := DataW.trod_int Tryz.underlying3 j1
    obtain ⟨b, e2, _, wb⟩ := DataW.trod_int Tryz.underlying3 j2
    obtain ⟨c, e3, _, wc⟩ := DataW.trod_int Tryz.underlying3 h1
    simp at e0 e1 e2 e3
    subst e0 e1 e2 e3
    refine ⟨⟨s, BitVec.ofInt 64 a, BitVec.ofInt 64 b, c⟩, ?_⟩
    unfold Pf.cs
    rw [wfP wa, wfP wb]

end Go.Proofs.YtdbcdichmmcnbaaGreat

/-
  Rows of blocks, five cells each: how they lie in memory, the laws' copies of them and looks at them, their reading.
-/
namespace Go.Proofs.YtdbcdichmmcnbaaGreat
open Go.ChangeShapes Go.WideShapes Go.ChangeAt Go.RowKit Go.Joins Go.Deep

structure Bk where
  p : Pf
  t : ByteArray
def Bk.cs (q : Bk) : List Value := [.bool q.p.s, .int .i64 q.p.H.toInt, .int .i64 q.p.L.toInt, .int .i64 q.p.b, .string q.t]
def Bk.zero : Bk := ⟨Pf.zero, ⟨#[]⟩⟩
def KBk : Kd Bk := ⟨5, Bk.cs, fun _ => rfl, fun x u h => by
  simp [Bk.cs] at h
  rcases h with rfl | rfl | rfl | rfl | rfl <;> rfl⟩
theorem Tryz.tyBk : GTy KBk (.agg #[.bool false, .int .i64 0, .int .i64 0, .int .i64 0, .string ⟨#[]⟩]) 48 Tryz.prog 25 38 := ⟨Tryz.underlying25, by kernel_rfl, rfl, by omega⟩

theorem rowBk {w : World} {a : Option Addr} {ps : List Bk} (h : RowG KBk w a ps) (j : Nat) (hj : j < ps.length) : ∃ p o q, a = some ⟨p, o, none⟩ ∧ p < w.heap.size ∧ ps[j]? = some q ∧
    w.cell? ⟨p, o + j * 5, none⟩ = some (.bool q.p.s) ∧ w.cell? ⟨p, o + j * 5 + 1, none⟩ = some (.int .i64 q.p.H.toInt) ∧ w.cell? ⟨p, o + j * 5 + 2, none⟩ = some (.int .i64 q.p.L.toInt) ∧ w.cell? ⟨p, o + j * 5 + 3, none⟩ = some (.int .i64 q.p.b) ∧ w.cell? ⟨p, o + j * 5 + 4, none⟩ = some (.string q.t) := by
  obtain ⟨p, o, q, ha, hp, hq, c⟩ := h j hj
  exact ⟨p, o, q, ha, hp, hq, c 0 _ rfl, c 1 _ rfl, c 2 _ rfl, c 3 _ rfl, c 4 _ rfl⟩
theorem rowBk0 {w : World} {g n cap B : Nat} {t : TypeId} {ps : List Bk} (h : OwnG KBk t w B (.slice (some ⟨g, 0, none⟩) n cap) ps) (j : Nat) (hj : j < ps.length) : ∃ q, g < w.heap.size ∧ ps[j]? = some q ∧
    w.cell? ⟨g, j * 5, none⟩ = some (.bool q.p.s) ∧ w.cell? ⟨g, j * 5 + 1, none⟩ = some (.int .i64 q.p.H.toInt) ∧ w.cell? ⟨g, j * 5 + 2, none⟩ = some (.int .i64 q.p.L.toInt) ∧ w.cell? ⟨g, j * 5 + 3, none⟩ = some (.int .i64 q.p.b) ∧ w.cell? ⟨g, j * 5 + 4, none⟩ = some (.string q.t) := by
  obtain ⟨p, o, q, ha, hp, hq, c0, c1, c2, c3, c4⟩ := rowBk h.row j hj
  simp only [Option.some.injEq, Addr.mk.injEq, and_true] at ha
  obtain ⟨rfl, rfl⟩ := ha
  rw [Nat.zero_add] at c0 c1 c2 c3 c4
  exact ⟨q, hp, hq, c0, c1, c2, c3, c4⟩
theorem putBk {t : TypeId} {w : World} {B g n cap : Nat} {ps : List Bk} (h : OwnG KBk t w B (.slice (some ⟨g, 0, none⟩) n cap) ps) (hn : n = ps.length) (j : Nat) (hj : j < n) (q : Bk) :
    OwnG KBk t (((((w.setCell ⟨g, j * 5, none⟩ (.bool q.p.s)).setCell ⟨g, j * 5 + 1, none⟩ (.int .i64 q.p.H.toInt)).setCell ⟨g, j * 5 + 2, none⟩ (.int .i64 q.p.L.toInt)).setCell ⟨g, j * 5 + 3, none⟩ (.int .i64 q.p.b)).setCell ⟨g, j * 5 + 4, none⟩ (.string q.t)) B (.slice (some ⟨g, 0, none⟩) n cap) (ps.set j q) := h.put hn j hj q
theorem frzBk {t : TypeId} {w : World} {B g n cap : Nat} {ps : List Bk} (h : OwnG KBk t w B (.slice (some ⟨g, 0, none⟩) n cap) ps) (j : Nat) :
    w.frozen? ⟨g, j * 5, none⟩ = false ∧ w.frozen? ⟨g, j * 5 + 1, none⟩ = false ∧ w.frozen? ⟨g, j * 5 + 2, none⟩ = false ∧ w.frozen? ⟨g, j * 5 + 3, none⟩ = false ∧ w.frozen? ⟨g, j * 5 + 4, none⟩ = false := ⟨h.frozen _, h.frozen _, h.frozen _, h.frozen _, h.frozen _⟩

set_option maxHeartbeats 1000000 in
theorem toBlock_any (q : Bk) (w : World) :
    Calls Tryz.prog 111 #[.agg #[.bool q.p.s, .int .i64 q.p.H.toInt, .int .i64 q.p.L.toInt, .int .i64 q.p.b, .string q.t]] w fun e w' => e = .returned (.agg #[.bool q.p.s, .int .i64 q.p.H.toInt, .int .i64 q.p.L.toInt, .int .i64 q.p.b, .string q.t]) ∧ Below w.heap.size w w' := by
  go_enter Tryz.func111, Tryz.ntmps111
  go_wp2_with fail
  refine (toPrefix_any q.p.s q.p.H.toInt q.p.L.toInt q.p.b _).mono ?_
  rintro e w1 ⟨rfl, hb1⟩
  have hz1 := hb1.size
  try simp at hz1
  have f10 : w.heap.size < w1.heap.size := by omega
  have f11 : w.heap.size + 1 < w1.heap.size := by omega
  have f12 : w.heap.size + 2 < w1.heap.size := by omega
  refine olds_k (w.heap.size + 3) hb1 ?_ ?_
  · first | omega | (simp; omega) | (simp; done)
  intro hc1 hf1
  go_wp2_with fail
  refine bodyPost_ret (v := .agg #[.bool q.p.s, .int .i64 q.p.H.toInt, .int .i64 q.p.L.toInt, .int .i64 q.p.b, .string q.t]) (by simp [results, Tryz.results111, go_sem, hc1]) rfl ⟨rfl, ?_⟩
  repeat (first | with_reducible exact Below.refl _ _ | (with_reducible refine Below.drew ?_) | (with_reducible refine Below.alloc ?_ ?_ _; rotate_left; (focus (first | omega | (simp; omega) | (simp; done)))) | (with_reducible refine Below.setCell ?_ ?_ _; rotate_left; (focus (first | omega | (simp; omega) | (simp; done)))) | (with_reducible refine Below.trans ?_ (hb1.mono ?_); rotate_left; (focus (first | omega | (simp; omega) | (simp; done)))))

set_option maxHeartbeats 1000000 in
theorem eqBlock_same (q : Bk) (w : World) :
    Calls Tryz.prog 113 #[.agg #[.bool q.p.s, .int .i64 q.p.H.toInt, .int .i64 q.p.L.toInt, .int .i64 q.p.b, .string q.t], .agg #[.bool q.p.s, .int .i64 q.p.H.toInt, .int .i64 q.p.L.toInt, .int .i64 q.p.b, .string q.t]] w fun e w' => e = .returned (.bool true) ∧ Below w.heap.size w w' := by
  go_enter Tryz.func113, Tryz.ntmps113
  go_wp2_with fail
  refine (eqP_same q.p.s q.p.H.toInt q.p.L.toInt q.p.b _).mono ?_
  rintro e w1 ⟨rfl, hb1⟩
  have hz1 := hb1.size
  try simp at hz1
  have f10 : w.heap.size < w1.heap.size := by omega
  have f11 : w.heap.size + 1 < w1.heap.size := by omega
  refine olds_k (w.heap.size + 2) hb1 ?_ ?_
  · first | omega | (simp; omega) | (simp; done)
  intro hc1 hf1
  go_wp2_with fail
  go_ret
  refine ⟨rfl, ?_⟩
  repeat (first | with_reducible exact Below.refl _ _ | (with_reducible refine Below.drew ?_) | (with_reducible refine Below.alloc ?_ ?_ _; rotate_left; (focus (first | omega | (simp; omega) | (simp; done)))) | (with_reducible refine Below.setCell ?_ ?_ _; rotate_left; (focus (first | omega | (simp; omega) | (simp; done)))) | (with_reducible refine Below.trans ?_ (hb1.mono ?_); rotate_left; (focus (first | omega | (simp; omega) | (simp; done)))))

set_option maxHeartbeats 1000000 in
theorem toBlockS_any (a : Option Addr) (n cap : Nat) (ps : List Bk) (w : World) (hn : n = ps.length) (hB : RowG KBk w a ps) (hl : n ≤ 1048576) :
    Calls Tryz.prog 68 #[.slice a n cap] w fun e w' => ∃ g, e = .returned (.slice (some ⟨g, 0, none⟩) n n) ∧ OwnG KBk 38 w' w.heap.size (.slice (some ⟨g, 0, none⟩) n n) ps ∧ Below w.heap.size w w' := by
  obtain ⟨i0, hi, hz0, hz1, hz2⟩ := info_parts Tryz.tyBk.2.1
  have HB := hidP hB
  have HN := hidP hn
  clear hB hn
  go_enter Tryz.func68, Tryz.ntmps68
  go_wp2_with (refine wpList_make_full _ rfl (.tmp 6) (.tmp 6) 25 rfl w.heap.size 38 i0 _ 5 Tryz.tyBk.1 hi hz0 hz1 .i64 .i64 n n n rfl rfl rfl rfl (by rw [hz2]; omega) (by unfold maxLen; omega) (Nat.le_refl _) ?_; intro w1 hown hgrow)
  have HO : Hid (OwnG KBk 38 w1 w.heap.size (.slice (some ⟨w.heap.size, 0, none⟩) n n) (ps.take 0 ++ List.replicate (ps.length - 0) Bk.zero)) := by
    have hm := made_gen KBk Bk.zero (by show 0 < 5; omega) (.agg #[.bool false, .int .i64 0, .int .i64 0, .int .i64 0, .string ⟨#[]⟩]) rfl n
    rw [show n * 5 = n * KBk.k from rfl, hm] at hown
    refine hidP ?_
    unfold OwnG
    rw [Nat.sub_zero, List.take_zero, List.nil_append, List.length_replicate, ← HN.out]; exact hown
  have HW : Hid (Below w.heap.size w w1) := (Below.refl _ w).grown hgrow (Nat.le_refl _) (fun k hk => by cases hk)
  clear hown hgrow
  go_loopw [4] (fun t4 wr => ∃ k : Nat, k ≤ n ∧ t4 = .int .i64 k ∧ OwnG KBk 38 wr w.heap.size (.slice (some ⟨w.heap.size, 0, none⟩) n n) (ps.take k ++ List.replicate (ps.length - k) Bk.zero) ∧ Below w.heap.size w wr) (fun t4 _ => n - (intOf t4).toNat)
  case atStart => exact ⟨0, Nat.zero_le _, rfl, HO.out, HW.out⟩
  case round =>
    obtain ⟨k, hk, rfl, hown, hbel⟩ := hrel
    by_cases hlt : k < n
    · obtain ⟨p, o, q, rfl, hp, hq, c0, c1, c2, c3, c4⟩ := rowBk HB.out k (by rw [← HN.out]; exact hlt)
      have d0 := (hbel.cell hp).trans c0
      have d1 := (hbel.cell hp).trans c1
      have d2 := (hbel.cell hp).trans c2
      have d3 := (hbel.cell hp).trans c3
      have d4 := (hbel.cell hp).trans c4
      have HOw := hidP hown
      have HBel := hidP hbel
      have HQ := hidP hq
      clear hown hbel c0 c1 c2 c3 c4 hq HO HW
      go_wp2_with fail
      refine (toBlock_any q _).mono ?_
      rintro e w2 ⟨rfl, hb2⟩
      have ho2 := HOw.out.later hb2
      have hlen : n = (ps.take k ++ List.replicate (ps.length - k) Bk.zero).length := by rw [List.length_append, List.length_take, List.length_replicate, HN.out]; have := HN.out; omega
      obtain ⟨f0, f1, f2, f3, f4⟩ := frzBk ho2 k
      have hput' := putBk ho2 hlen k hlt q
      rw [copy_stepG Bk.zero ps k q (by rw [← HN.out]; exact hlt) HQ.out] at hput'
      have HP := hidP hput'
      obtain ⟨q', hp', _, e0, e1, e2, e3, e4⟩ := rowBk0 ho2 k (by rw [← hlen]; exact hlt)
      have HBel2 := hidP (HBel.out.trans (hb2.mono HBel.out.size))
      clear hput' ho2 hb2 HBel HOw d0 d1 d2 d3 d4 hlen
      go_wp2_with fail
      go_roundw
      case rel => exact ⟨k + 1, by omega, by go_num, HP.out, ((((HBel2.out.setCell (Nat.le_refl _) _).setCell (Nat.le_refl _) _).setCell (Nat.le_refl _) _).setCell (Nat.le_refl _) _).setCell (Nat.le_refl _) _⟩
      case measure => simp [intOf]; omega
    · have hkn : k = n := by omega
      subst hkn
      have HO2 : Hid (OwnG KBk 38 wr w.heap.size (.slice (some ⟨w.heap.size, 0, none⟩) k k) ps) := by
        have e := HN.out
        rw [e, List.take_length, Nat.sub_self, List.replicate_zero, List.append_nil] at hown
        rw [← e] at hown
        exact hidP hown
      have HBel : Hid (Below w.heap.size w wr) := hbel
      clear hown hbel HO HW
      go_wp2
      go_ret
      exact ⟨_, rfl, HO2.out, HBel.out⟩

set_option maxHeartbeats 1000000 in
theorem eqBlockS_same (a b : Option Addr) (n c d : Nat) (ps : List Bk) (w : World) (hn : n = ps.length) (ha : RowG KBk w a ps) (hb : RowG KBk w b ps) (hl : n ≤ 9000000000) :
    Calls Tryz.prog 71 #[.slice a n c, .slice b n d] w fun e w' => e = .returned (.bool true) ∧ Below w.heap.size w w' := by
  have HA := hidP ha
  have HB := hidP hb
  have HN := hidP hn
  clear ha hb hn
  go_enter Tryz.func71, Tryz.ntmps71
  go_wp2
  go_loopw [5] (fun t5 wr => ∃ k : Nat, k ≤ n ∧ t5 = .int .i64 k ∧ Below w.heap.size w wr) (fun t5 _ => n - (intOf t5).toNat)
  case atStart => exact ⟨0, Nat.zero_le _, rfl, Below.refl _ _⟩
  case round =>
    obtain ⟨k, hk, rfl, hbel⟩ := hrel
    have HW := hidP hbel
    by_cases hlt : k < n
    · obtain ⟨p, o, q, rfl, hp, hq, c0, c1, c2, c3, c4⟩ := rowBk HA.out k (by rw [← HN.out]; exact hlt)
      obtain ⟨p', o', q', rfl, hp', hq', d0, d1, d2, d3, d4⟩ := rowBk HB.out k (by rw [← HN.out]; exact hlt)
      rw [hq] at hq'
      cases hq'
      have c0' := (hbel.cell hp).trans c0
      have c1' := (hbel.cell hp).trans c1
      have c2' := (hbel.cell hp).trans c2
      have c3' := (hbel.cell hp).trans c3
      have c4' := (hbel.cell hp).trans c4
      have d0' := (hbel.cell hp').trans d0
      have d1' := (hbel.cell hp').trans d1
      have d2' := (hbel.cell hp').trans d2
      have d3' := (hbel.cell hp').trans d3
      have d4' := (hbel.cell hp').trans d4
      clear c0 c1 c2 c3 c4 d0 d1 d2 d3 d4 hq hbel
      go_wp2_with fail
      go_region_with (first | (go_at_call 113; refine (eqBlock_same q _).mono ?_; rintro e w2 ⟨rfl, hb2⟩))
      all_goals
        have HW2 := hidP (HW.out.drew.trans (hb2.mono HW.out.drew.size))
        clear hb2
        go_wp2
        go_roundw
        case rel => exact ⟨k + 1, by omega, by go_num, HW2.out⟩
        case measure => simp [intOf]; omega
    · have hkn : k = n := by omega
      subst hkn
      clear hbel
      go_wp2
      go_ret
      exact ⟨rfl, HW.out⟩

theorem Tryz.cellsBk : Tryz.prog.cellsOf 152 = 5 := by kernel_rfl

end Go.Proofs.YtdbcdichmmcnbaaGreat

/-
  Maps of blocks by their prefixes: how a key and an element read, what such a map holds.
-/
namespace Go.Proofs.YtdbcdichmmcnbaaGreat
open Go.RowKit Go.Maps

/-- A prefix as a value; its key. -/
def pfV (p : Pf) : Value := .agg #[.bool p.s, .int .i64 p.H.toInt, .int .i64 p.L.toInt, .int .i64 p.b]
def pfB (p : Pf) : List UInt8 := keyBytes [.bool p.s, .int .i64 p.H.toInt, .int .i64 p.L.toInt, .int .i64 p.b]
def bitW (p : Pf) : Prop := (Lit.int .i64 p.b).wf = true
theorem wf_bv (x : BitVec 64) : (Lit.int .i64 x.toInt).wf = true := by
  have h1 := BitVec.le_toInt x
  have h2 := BitVec.toInt_lt (x := x)
  have m1 : IntKind.i64.min = -9223372036854775808 := by decide
  have m2 : IntKind.i64.max = 9223372036854775807 := by decide
  simp [Lit.wf, m1, m2] at *
  first | omega | exact ⟨by omega, by omega⟩
theorem Tryz.laidOutK : laidOutB Tryz.prog = true := by kernel_rfl
theorem Tryz.widePf : (match Tryz.prog.underlying 31 with | some (.array _ _) | some (.struct _) => true | _ => false) = true := by kernel_rfl
set_option maxRecDepth 100000 in
theorem Tryz.keyPf : Keyed Tryz.prog 31 := Keyed.of_law (deep_law_laid Tryz.laidOutK (m := 4) (by omega) (of_decide_eq_true (by kernel_rfl)) (by kernel_rfl) Tryz.widePf)
theorem keyOf_pf {p : Pf} (h : bitW p) : keyOf Tryz.prog 31 (pfV p) = some (.string (pfB p)) := by
  have e1 : Tryz.prog.keyType 31 = true := by kernel_rfl
  have e2 : (pfV p).formed Tryz.prog 31 = true := by kernel_rfl
  unfold keyOf
  rw [Tryz.underlying31]
  simp only [e1, e2, Bool.and_self, if_true]
  have hH := wf_bv p.H
  have hL := wf_bv p.L
  have hb : (Lit.int .i64 p.b).wf = true := h
  have c1 : Tryz.prog.cellsOf 31 = 4 := by kernel_rfl
  have c2 : Tryz.prog.cellsOf 29 = 3 := by kernel_rfl
  have c3 : Tryz.prog.cellsOf 3 = 1 := by kernel_rfl
  have c4 : Tryz.prog.cellsOf 4 = 1 := by kernel_rfl
  have hsz : 2 ≤ Tryz.prog.types.size := of_decide_eq_true (by kernel_rfl)
  obtain ⟨n, hn⟩ : ∃ n, Tryz.prog.types.size + 1 = n + 3 := ⟨Tryz.prog.types.size - 2, by omega⟩
  rw [hn]
  simp [Program.keyLits, Tryz.underlying31, Tryz.underlying29, Tryz.underlying3, Tryz.underlying4, pfV, Value.cells, c1, c2, c3, c4, hH, hL, hb, pfB]
  rw [if_pos (by decide)]
  rfl

/-- How a block in such a map reads. -/
def dtB (q : Bk) : DataW Unit := .agg [.lit (.bool q.p.s), .lit (.int .i64 q.p.H.toInt), .lit (.int .i64 q.p.L.toInt), .lit (.int .i64 q.p.b), .lit (.string q.t.data.toList)]
def bkV (q : Bk) : Value := .agg #[.bool q.p.s, .int .i64 q.p.H.toInt, .int .i64 q.p.L.toInt, .int .i64 q.p.b, .string q.t]
def rdB (v : Value) : Option (DataW Unit × List MemPlace) :=
  match v with
  | .agg cs => match cs.toList with
    | [.bool s, .int .i64 H, .int .i64 L, .int .i64 b, .string t] => if (BitVec.ofInt 64 H).toInt = H ∧ (BitVec.ofInt 64 L).toInt = L then some (.agg [.lit (.bool s), .lit (.int .i64 H), .lit (.int .i64 L), .lit (.int .i64 b), .lit (.string t.data.toList)], []) else none
    | _ => none
  | _ => none
theorem rdB_mk (q : Bk) : rdB (bkV q) = some (dtB q, []) := by
  simp [rdB, bkV, dtB, BitVec.ofInt_toInt]
theorem rdB_inv {v : Value} {y : DataW Unit × List MemPlace} (h : rdB v = some y) : ∃ q, v = bkV q ∧ y = (dtB q, []) := by
  unfold rdB at h
  split at h
  · rename_i cs
    split at h
    · rename_i s H L b t hcs
      split at h
      · rename_i hw
        refine ⟨⟨⟨s, BitVec.ofInt 64 H, BitVec.ofInt 64 L, b⟩, t⟩, ?_, ?_⟩
        · unfold bkV
          rw [hw.1, hw.2]
          congr 1
          exact Array.ext' (by rw [hcs])
        · simp only [Option.some.injEq] at h
          rw [← h]
          unfold dtB
          rw [hw.1, hw.2]
      · cases h
    · cases h
  · cases h
theorem bkV_inj {q r : Bk} (h : bkV q = bkV r) : q = r := by
  obtain ⟨⟨s, H, L, b⟩, t⟩ := q
  obtain ⟨⟨s', H', L', b'⟩, t'⟩ := r
  simp [bkV] at h
  obtain ⟨rfl, h1, h2, rfl, rfl⟩ := h
  rw [BitVec.toInt_inj] at h1 h2
  subst h1 h2
  rfl
theorem dtB_inj {q r : Bk} (h : dtB q = dtB r) : q = r := by
  obtain ⟨⟨s, H, L, b⟩, t⟩ := q
  obtain ⟨⟨s', H', L', b'⟩, t'⟩ := r
  simp [dtB] at h
  obtain ⟨rfl, h1, h2, rfl, h3⟩ := h
  rw [BitVec.toInt_inj] at h1 h2
  subst h1 h2
  have : t = t' := by
    cases t; cases t'
    simp at h3
    subst h3
    rfl
  subst this
  rfl
theorem pfB_inj {p r : Pf} (hp : bitW p) (hr : bitW r) (h : pfB p = pfB r) : p = r := by
  have e := Tryz.keyPf.inj (keyOf_pf hp) (by rw [keyOf_pf hr, h])
  obtain ⟨s, H, L, b⟩ := p
  obtain ⟨s', H', L', b'⟩ := r
  simp [pfV] at e
  obtain ⟨rfl, h1, h2, rfl⟩ := e
  rw [BitVec.toInt_inj] at h1 h2
  subst h1 h2
  rfl
/-- The map's blocks are these, each under its own prefix. -/
structure HasB (D : DataW Unit) (bs : List Bk) : Prop where
  isM : IsMap D
  at' : ∀ q ∈ bs, ∀ z, D.atKey (.string (pfB q.p)) z = dtB q
  key : ∀ s, Maps.has D (.string s) = true → ∃ q ∈ bs, pfB q.p = s
  wf : ∀ q ∈ bs, bitW q.p
  uni : ∀ q ∈ bs, ∀ r ∈ bs, q.p = r.p → q = r

theorem HasB.put {D : DataW Unit} {bs : List Bk} (h : HasB D bs) (q : Bk) (hw : bitW q.p) (hn : ∀ r ∈ bs, r.p ≠ q.p) : HasB (D.put (.string (pfB q.p)) (dtB q)) (bs ++ [q]) := by
  have hk : WideAt.IsKeyLit (.string (pfB q.p)) := trivial
  have hne : ∀ r ∈ bs, (Lit.string (pfB r.p)) ≠ .string (pfB q.p) := fun r hr e => hn r hr (pfB_inj (h.wf r hr) hw (by injection e))
  refine ⟨IsMap.put h.isM _ _, ?_, ?_, ?_, ?_⟩
  · intro r hr z
    rcases List.mem_append.1 hr with h1 | h1
    · rw [atKey_put_other (hne r h1)]; exact h.at' r h1 z
    · simp at h1; subst h1; exact atKey_put_same h.isM hk _ z
  · intro s hs
    by_cases he : s = pfB q.p
    · exact ⟨q, by simp, he.symm⟩
    · rw [has_put_other (by intro e; injection e; contradiction)] at hs
      obtain ⟨r, h1, h2⟩ := h.key s hs
      exact ⟨r, List.mem_append.2 (Or.inl h1), h2⟩
  · intro r hr
    rcases List.mem_append.1 hr with h1 | h1
    · exact h.wf r h1
    · simp at h1; subst h1; exact hw
  · intro r hr r' hr' e
    rcases List.mem_append.1 hr with h1 | h1 <;> rcases List.mem_append.1 hr' with h2 | h2
    · exact h.uni r h1 r' h2 e
    · simp at h2; subst h2; exact absurd e (hn r h1)
    · simp at h1; subst h1; exact absurd e.symm (hn r' h2)
    · simp at h1 h2; rw [h1, h2]
theorem HasB.nil : HasB (.map []) [] := ⟨⟨_, rfl⟩, (fun q h => by cases h), (fun s h => by cases h), (fun q h => by cases h), (fun q h => by cases h)⟩

end Go.Proofs.YtdbcdichmmcnbaaGreat
