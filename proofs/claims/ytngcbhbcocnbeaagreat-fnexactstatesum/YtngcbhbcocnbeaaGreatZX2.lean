/-
  What putSum_both needs, part 2.
-/
import Derived.Test.YtngcbhbcocnbeaaGreatZX1
import Derived.Lib.SmallJoins
import Derived.Deep.RegionWith
import Derived.Deep.DeepCutAuto
import Derived.Deep.RegionHeld3
import Derived.Carry
import Derived.Deep.Slices
import Derived.ChangeMaps5
import Derived.Lib.SlicesCompact
namespace Go.Proofs.YtngcbhbcocnbeaaGreat
open Go.ChangeShapes Go.WideShapes Go.ChangeAt Go.RowKit Go.Joins Go.Deep

structure Pl where
  p : Pf
  n : Int
def Pl.cs (q : Pl) : List Value := [.bool q.p.s, .int .i64 q.p.H.toInt, .int .i64 q.p.L.toInt, .int .i64 q.p.b, .int .i64 q.n]
def Pl.zero : Pl := ⟨Pf.zero, 0⟩
def KPl : Kd Pl := ⟨5, Pl.cs, fun _ => rfl, fun x u h => by
  simp [Pl.cs] at h
  rcases h with rfl | rfl | rfl | rfl | rfl <;> rfl⟩
theorem Tryz.tyPl : GTy KPl (.agg #[.bool false, .int .i64 0, .int .i64 0, .int .i64 0, .int .i64 0]) 40 Tryz.prog 37 68 := ⟨Tryz.underlying37, by kernel_rfl, rfl, by omega⟩

theorem rowPl {w : World} {a : Option Addr} {ps : List Pl} (h : RowG KPl w a ps) (j : Nat) (hj : j < ps.length) : ∃ p o q, a = some ⟨p, o, none⟩ ∧ p < w.heap.size ∧ ps[j]? = some q ∧
    w.cell? ⟨p, o + j * 5, none⟩ = some (.bool q.p.s) ∧ w.cell? ⟨p, o + j * 5 + 1, none⟩ = some (.int .i64 q.p.H.toInt) ∧ w.cell? ⟨p, o + j * 5 + 2, none⟩ = some (.int .i64 q.p.L.toInt) ∧ w.cell? ⟨p, o + j * 5 + 3, none⟩ = some (.int .i64 q.p.b) ∧ w.cell? ⟨p, o + j * 5 + 4, none⟩ = some (.int .i64 q.n) := by
  obtain ⟨p, o, q, ha, hp, hq, c⟩ := h j hj
  exact ⟨p, o, q, ha, hp, hq, c 0 _ rfl, c 1 _ rfl, c 2 _ rfl, c 3 _ rfl, c 4 _ rfl⟩
theorem rowPl0 {w : World} {g n cap B : Nat} {t : TypeId} {ps : List Pl} (h : OwnG KPl t w B (.slice (some ⟨g, 0, none⟩) n cap) ps) (j : Nat) (hj : j < ps.length) : ∃ q, g < w.heap.size ∧ ps[j]? = some q ∧
    w.cell? ⟨g, j * 5, none⟩ = some (.bool q.p.s) ∧ w.cell? ⟨g, j * 5 + 1, none⟩ = some (.int .i64 q.p.H.toInt) ∧ w.cell? ⟨g, j * 5 + 2, none⟩ = some (.int .i64 q.p.L.toInt) ∧ w.cell? ⟨g, j * 5 + 3, none⟩ = some (.int .i64 q.p.b) ∧ w.cell? ⟨g, j * 5 + 4, none⟩ = some (.int .i64 q.n) := by
  obtain ⟨p, o, q, ha, hp, hq, c0, c1, c2, c3, c4⟩ := rowPl h.row j hj
  simp only [Option.some.injEq, Addr.mk.injEq, and_true] at ha
  obtain ⟨rfl, rfl⟩ := ha
  rw [Nat.zero_add] at c0 c1 c2 c3 c4
  exact ⟨q, hp, hq, c0, c1, c2, c3, c4⟩
theorem putPl {t : TypeId} {w : World} {B g n cap : Nat} {ps : List Pl} (h : OwnG KPl t w B (.slice (some ⟨g, 0, none⟩) n cap) ps) (hn : n = ps.length) (j : Nat) (hj : j < n) (q : Pl) :
    OwnG KPl t (((((w.setCell ⟨g, j * 5, none⟩ (.bool q.p.s)).setCell ⟨g, j * 5 + 1, none⟩ (.int .i64 q.p.H.toInt)).setCell ⟨g, j * 5 + 2, none⟩ (.int .i64 q.p.L.toInt)).setCell ⟨g, j * 5 + 3, none⟩ (.int .i64 q.p.b)).setCell ⟨g, j * 5 + 4, none⟩ (.int .i64 q.n)) B (.slice (some ⟨g, 0, none⟩) n cap) (ps.set j q) := h.put hn j hj q
theorem frzPl {t : TypeId} {w : World} {B g n cap : Nat} {ps : List Pl} (h : OwnG KPl t w B (.slice (some ⟨g, 0, none⟩) n cap) ps) (j : Nat) :
    w.frozen? ⟨g, j * 5, none⟩ = false ∧ w.frozen? ⟨g, j * 5 + 1, none⟩ = false ∧ w.frozen? ⟨g, j * 5 + 2, none⟩ = false ∧ w.frozen? ⟨g, j * 5 + 3, none⟩ = false ∧ w.frozen? ⟨g, j * 5 + 4, none⟩ = false := ⟨h.frozen _, h.frozen _, h.frozen _, h.frozen _, h.frozen _⟩

set_option maxHeartbeats 1000000 in
theorem toPool_any (q : Pl) (w : World) :
    Calls Tryz.prog 90 #[.agg #[.bool q.p.s, .int .i64 q.p.H.toInt, .int .i64 q.p.L.toInt, .int .i64 q.p.b, .int .i64 q.n]] w fun e w' => e = .returned (.agg #[.bool q.p.s, .int .i64 q.p.H.toInt, .int .i64 q.p.L.toInt, .int .i64 q.p.b, .int .i64 q.n]) ∧ Below w.heap.size w w' := by
  go_enter Tryz.func90, Tryz.ntmps90
  go_wp2_with fail
  refine (toPrefix_any q.p.s q.p.H.toInt q.p.L.toInt q.p.b _).mono ?_
  rintro e w1 ⟨rfl, hb1⟩
  have hz1 := hb1.size
  try simp at hz1
  have f10 : w.heap.size < w1.heap.size := by omega
  have f11 : w.heap.size + 1 < w1.heap.size := by omega
  have f12 : w.heap.size + 2 < w1.heap.size := by omega
  refine olds_k (w.heap.size + 3) hb1 ?_ ?_
  · first | omega | (simp; omega) | (simp; done)
  intro hc1 hf1
  go_wp2_with fail
  refine bodyPost_ret (v := .agg #[.bool q.p.s, .int .i64 q.p.H.toInt, .int .i64 q.p.L.toInt, .int .i64 q.p.b, .int .i64 q.n]) (by simp [results, Tryz.results90, go_sem, hc1]) rfl ⟨rfl, ?_⟩
  repeat (first | with_reducible exact Below.refl _ _ | (with_reducible refine Below.drew ?_) | (with_reducible refine Below.alloc ?_ ?_ _; rotate_left; (focus (first | omega | (simp; omega) | (simp; done)))) | (with_reducible refine Below.setCell ?_ ?_ _; rotate_left; (focus (first | omega | (simp; omega) | (simp; done)))) | (with_reducible refine Below.trans ?_ (hb1.mono ?_); rotate_left; (focus (first | omega | (simp; omega) | (simp; done)))))

set_option maxHeartbeats 1000000 in
theorem eqPool_same (q : Pl) (w : World) :
    Calls Tryz.prog 102 #[.agg #[.bool q.p.s, .int .i64 q.p.H.toInt, .int .i64 q.p.L.toInt, .int .i64 q.p.b, .int .i64 q.n], .agg #[.bool q.p.s, .int .i64 q.p.H.toInt, .int .i64 q.p.L.toInt, .int .i64 q.p.b, .int .i64 q.n]] w fun e w' => e = .returned (.bool true) ∧ Below w.heap.size w w' := by
  go_enter Tryz.func102, Tryz.ntmps102
  go_wp2_with fail
  refine (eqP_same q.p.s q.p.H.toInt q.p.L.toInt q.p.b _).mono ?_
  rintro e w1 ⟨rfl, hb1⟩
  have hz1 := hb1.size
  try simp at hz1
  have f10 : w.heap.size < w1.heap.size := by omega
  have f11 : w.heap.size + 1 < w1.heap.size := by omega
  refine olds_k (w.heap.size + 2) hb1 ?_ ?_
  · first | omega | (simp; omega) | (simp; done)
  intro hc1 hf1
  go_wp2_with fail
  go_ret
  refine ⟨rfl, ?_⟩
  repeat (first | with_reducible exact Below.refl _ _ | (with_reducible refine Below.drew ?_) | (with_reducible refine Below.alloc ?_ ?_ _; rotate_left; (focus (first | omega | (simp; omega) | (simp; done)))) | (with_reducible refine Below.setCell ?_ ?_ _; rotate_left; (focus (first | omega | (simp; omega) | (simp; done)))) | (with_reducible refine Below.trans ?_ (hb1.mono ?_); rotate_left; (focus (first | omega | (simp; omega) | (simp; done)))))

set_option maxHeartbeats 1000000 in
theorem toPoolS_any (a : Option Addr) (n cap : Nat) (ps : List Pl) (w : World) (hn : n = ps.length) (hB : RowG KPl w a ps) (hl : n ≤ 1048576) :
    Calls Tryz.prog 58 #[.slice a n cap] w fun e w' => ∃ g, e = .returned (.slice (some ⟨g, 0, none⟩) n n) ∧ OwnG KPl 68 w' w.heap.size (.slice (some ⟨g, 0, none⟩) n n) ps ∧ Below w.heap.size w w' := by
  obtain ⟨i0, hi, hz0, hz1, hz2⟩ := info_parts Tryz.tyPl.2.1
  have HB := hidP hB
  have HN := hidP hn
  clear hB hn
  go_enter Tryz.func58, Tryz.ntmps58
  go_wp2_with (refine wpList_make_full _ rfl (.tmp 6) (.tmp 6) 37 rfl w.heap.size 68 i0 _ 5 Tryz.tyPl.1 hi hz0 hz1 .i64 .i64 n n n rfl rfl rfl rfl (by rw [hz2]; omega) (by unfold maxLen; omega) (Nat.le_refl _) ?_; intro w1 hown hgrow)
  have HO : Hid (OwnG KPl 68 w1 w.heap.size (.slice (some ⟨w.heap.size, 0, none⟩) n n) (ps.take 0 ++ List.replicate (ps.length - 0) Pl.zero)) := by
    have hm := made_gen KPl Pl.zero (by show 0 < 5; omega) (.agg #[.bool false, .int .i64 0, .int .i64 0, .int .i64 0, .int .i64 0]) rfl n
    rw [show n * 5 = n * KPl.k from rfl, hm] at hown
    refine hidP ?_
    unfold OwnG
    rw [Nat.sub_zero, List.take_zero, List.nil_append, List.length_replicate, ← HN.out]; exact hown
  have HW : Hid (Below w.heap.size w w1) := (Below.refl _ w).grown hgrow (Nat.le_refl _) (fun k hk => by cases hk)
  clear hown hgrow
  go_loopw [4] (fun t4 wr => ∃ k : Nat, k ≤ n ∧ t4 = .int .i64 k ∧ OwnG KPl 68 wr w.heap.size (.slice (some ⟨w.heap.size, 0, none⟩) n n) (ps.take k ++ List.replicate (ps.length - k) Pl.zero) ∧ Below w.heap.size w wr) (fun t4 _ => n - (intOf t4).toNat)
  case atStart => exact ⟨0, Nat.zero_le _, rfl, HO.out, HW.out⟩
  case round =>
    obtain ⟨k, hk, rfl, hown, hbel⟩ := hrel
    by_cases hlt : k < n
    · obtain ⟨p, o, q, rfl, hp, hq, c0, c1, c2, c3, c4⟩ := rowPl HB.out k (by rw [← HN.out]; exact hlt)
      have d0 := (hbel.cell hp).trans c0
      have d1 := (hbel.cell hp).trans c1
      have d2 := (hbel.cell hp).trans c2
      have d3 := (hbel.cell hp).trans c3
      have d4 := (hbel.cell hp).trans c4
      have HOw := hidP hown
      have HBel := hidP hbel
      have HQ := hidP hq
      clear hown hbel c0 c1 c2 c3 c4 hq HO HW
      go_wp2_with fail
      refine (toPool_any q _).mono ?_
      rintro e w2 ⟨rfl, hb2⟩
      have ho2 := HOw.out.later hb2
      have hlen : n = (ps.take k ++ List.replicate (ps.length - k) Pl.zero).length := by rw [List.length_append, List.length_take, List.length_replicate, HN.out]; have := HN.out; omega
      obtain ⟨f0, f1, f2, f3, f4⟩ := frzPl ho2 k
      have hput' := putPl ho2 hlen k hlt q
      rw [copy_stepG Pl.zero ps k q (by rw [← HN.out]; exact hlt) HQ.out] at hput'
      have HP := hidP hput'
      obtain ⟨q', hp', _, e0, e1, e2, e3, e4⟩ := rowPl0 ho2 k (by rw [← hlen]; exact hlt)
      have HBel2 := hidP (HBel.out.trans (hb2.mono HBel.out.size))
      clear hput' ho2 hb2 HBel HOw d0 d1 d2 d3 d4 hlen
      go_wp2_with fail
      go_roundw
      case rel => exact ⟨k + 1, by omega, by go_num, HP.out, ((((HBel2.out.setCell (Nat.le_refl _) _).setCell (Nat.le_refl _) _).setCell (Nat.le_refl _) _).setCell (Nat.le_refl _) _).setCell (Nat.le_refl _) _⟩
      case measure => simp [intOf]; omega
    · have hkn : k = n := by omega
      subst hkn
      have HO2 : Hid (OwnG KPl 68 wr w.heap.size (.slice (some ⟨w.heap.size, 0, none⟩) k k) ps) := by
        have e := HN.out
        rw [e, List.take_length, Nat.sub_self, List.replicate_zero, List.append_nil] at hown
        rw [← e] at hown
        exact hidP hown
      have HBel : Hid (Below w.heap.size w wr) := hbel
      clear hown hbel HO HW
      go_wp2
      go_ret
      exact ⟨_, rfl, HO2.out, HBel.out⟩

set_option maxHeartbeats 1000000 in
theorem eqPoolS_same (a b : Option Addr) (n c d : Nat) (ps : List Pl) (w : World) (hn : n = ps.length) (ha : RowG KPl w a ps) (hb : RowG KPl w b ps) (hl : n ≤ 9000000000) :
    Calls Tryz.prog 70 #[.slice a n c, .slice b n d] w fun e w' => e = .returned (.bool true) ∧ Below w.heap.size w w' := by
  have HA := hidP ha
  have HB := hidP hb
  have HN := hidP hn
  clear ha hb hn
  go_enter Tryz.func70, Tryz.ntmps70
  go_wp2
  go_loopw [5] (fun t5 wr => ∃ k : Nat, k ≤ n ∧ t5 = .int .i64 k ∧ Below w.heap.size w wr) (fun t5 _ => n - (intOf t5).toNat)
  case atStart => exact ⟨0, Nat.zero_le _, rfl, Below.refl _ _⟩
  case round =>
    obtain ⟨k, hk, rfl, hbel⟩ := hrel
    have HW := hidP hbel
    by_cases hlt : k < n
    · obtain ⟨p, o, q, rfl, hp, hq, c0, c1, c2, c3, c4⟩ := rowPl HA.out k (by rw [← HN.out]; exact hlt)
      obtain ⟨p', o', q', rfl, hp', hq', d0, d1, d2, d3, d4⟩ := rowPl HB.out k (by rw [← HN.out]; exact hlt)
      rw [hq] at hq'
      cases hq'
      have c0' := (hbel.cell hp).trans c0
      have c1' := (hbel.cell hp).trans c1
      have c2' := (hbel.cell hp).trans c2
      have c3' := (hbel.cell hp).trans c3
      have c4' := (hbel.cell hp).trans c4
      have d0' := (hbel.cell hp').trans d0
      have d1' := (hbel.cell hp').trans d1
      have d2' := (hbel.cell hp').trans d2
      have d3' := (hbel.cell hp').trans d3
      have d4' := (hbel.cell hp').trans d4
      clear c0 c1 c2 c3 c4 d0 d1 d2 d3 d4 hq hbel
      go_wp2_with fail
      go_region_with (first | (go_at_call 102; refine (eqPool_same q _).mono ?_; rintro e w2 ⟨rfl, hb2⟩))
      all_goals
        have HW2 := hidP (HW.out.drew.trans (hb2.mono HW.out.drew.size))
        clear hb2
        go_wp2
        go_roundw
        case rel => exact ⟨k + 1, by omega, by go_num, HW2.out⟩
        case measure => simp [intOf]; omega
    · have hkn : k = n := by omega
      subst hkn
      clear hbel
      go_wp2
      go_ret
      exact ⟨rfl, HW.out⟩

set_option maxHeartbeats 400000 in
theorem szPoolS_any (a : Option Addr) (n cap : Nat) (l : Int) (hl : (n : Int) ≤ l) (hl' : l ≤ 1048576) (w : World) :
    Calls Tryz.prog 48 #[.slice a n cap, .int .i64 l] w fun e w' => e = .returned (.int .i64 (l - n)) ∧ w' = w := by
  have d1 : decide (l - (n : Int) < 0) = false := decide_eq_false (by omega)
  go_enter Tryz.func48, Tryz.ntmps48
  go_wp2
  go_ret
  exact ⟨rfl, rfl⟩
set_option maxHeartbeats 400000 in
theorem szPoolS_big (a : Option Addr) (n cap : Nat) (l : Int) (hl : l < (n : Int)) (h0 : 0 ≤ l) (h9 : n ≤ 9223372036854775807) (w : World) :
    Calls Tryz.prog 48 #[.slice a n cap, .int .i64 l] w fun e w' => e = .returned (.int .i64 (-1)) ∧ w' = w := by
  have d1 : decide (l - (n : Int) < 0) = true := decide_eq_true (by omega)
  go_enter Tryz.func48, Tryz.ntmps48
  go_wp2
  go_ret
  exact ⟨rfl, rfl⟩

theorem Tryz.cellsPl : Tryz.prog.cellsOf 149 = 5 := by kernel_rfl
/-- One out of its five cells. -/
theorem ofPl {H : Type} {enc : TypeId × Value → H} {W : World} {fuel : Nat} {cs : List Value} {x : DataW H × List MemPlace} (hl : cs.length = 5)
    (h : DataW.trod enc Tryz.prog W 0 (fun _ => true) true fuel 149 cs = some x) : ∃ q : Pl, cs = q.cs := by
  match cs, hl with
  | [c0, c1, c2, c3, c4], _ =>
    obtain ⟨z0, z1, n, hx, _, h0, h1⟩ := trod_struct2 Tryz.underlying149 h
    have k0 : Tryz.prog.cellsOf 130 = 4 := by kernel_rfl
    have kl : Tryz.prog.cellsOf 3 = 1 := by kernel_rfl
    simp [k0, kl] at h0 h1
    obtain ⟨p, hp⟩ := pf_of rfl h0
    obtain ⟨y, e1, _, wy⟩ := DataW.trod_int Tryz.underlying3 h1
    simp at e1
    subst e1
    have hp' : [c0, c1, c2, c3] = [.bool p.s, .int .i64 p.H.toInt, .int .i64 p.L.toInt, .int .i64 p.b] := hp
    simp only [List.cons.injEq, and_true] at hp'
    obtain ⟨rfl, rfl, rfl, rfl⟩ := hp'
    exact ⟨⟨p, y⟩, rfl⟩

set_option maxRecDepth 100000 in
/-- The things out of the reading of a row of them. -/
theorem openPl {H : Type} {enc : TypeId × Value → H} {W : World} {a : Option Addr} {len cap : Nat} {d : DataW H} {p : List MemPlace}
    (h : DataW.Trod enc Tryz.prog W 0 (fun _ => true) true 22 (.slice a len cap) d p) : ∃ ps : List Pl, ps.length = len ∧ len ≤ 9223372036854775807 ∧ RowG KPl W a ps := by
  obtain ⟨fuel, hf⟩ := h
  rcases open_slice Tryz.underlying22 hf with ⟨hcs, _⟩ | ⟨a', len', cap', m, n, D, Plc, hcs, _, hl, hmx, hm, _, hV⟩
  · simp [Value.cells] at hcs
    obtain ⟨rfl, rfl, rfl⟩ := hcs
    exact ⟨[], rfl, by omega, RowG.nil _ _ _⟩
  · simp [Value.cells] at hcs
    obtain ⟨rfl, rfl, rfl⟩ := hcs
    suffices h9 : ∃ ps : List Pl, ps.length = len ∧ RowG KPl W (some a') ps by
      obtain ⟨ps, h1, h2⟩ := h9
      exact ⟨ps, h1, by unfold maxLen at hmx; omega, h2⟩
    refine rowsG_of _ _ fun j hj => ?_
    simp at hm
    obtain ⟨cs', h1, h2⟩ := hV j (by omega)
    rw [Tryz.cellsPl] at h1
    obtain ⟨_, hlen, hcell⟩ := World.cells?_some h1
    obtain ⟨q, rfl⟩ := ofPl hlen h2
    obtain ⟨p', o', sp⟩ := a'
    cases sp with
    | some r =>
      exfalso
      obtain ⟨cs0, g1, g2⟩ := hV 0 (by omega)
      rw [Tryz.cellsPl] at g1
      obtain ⟨_, glen, gcell⟩ := World.cells?_some g1
      obtain ⟨q0, rfl⟩ := ofPl glen g2
      have h0 := gcell 0 (by omega)
      rw [Nat.zero_mul, show Addr.add (Addr.add ⟨p', o', some r⟩ 0) 0 = ⟨p', o', some r⟩ from rfl] at h0
      unfold World.cell? at h0
      split at h0
      · simp [Pl.cs] at h0
      · cases h0
    | none =>
      have ea : ∀ i k : Nat, Addr.add (Addr.add ⟨p', o', none⟩ i) k = ⟨p', o' + i + k, none⟩ := fun i k => by
        have ea1 : ∀ (o k : Nat), Addr.add ⟨p', o, none⟩ k = ⟨p', o + k, none⟩ := fun o k => by unfold Addr.add; split <;> simp_all
        rw [ea1, ea1]
      have hall : ∀ i v, (KPl.cs q)[i]? = some v → W.cell? ⟨p', o' + j * KPl.k + i, none⟩ = some v := fun i v hv => by
        have hi : i < 5 := by
          rcases Nat.lt_or_ge i (KPl.cs q).length with h1 | h1
          · exact h1
          · rw [List.getElem?_eq_none h1] at hv; cases hv
        have e0 := hcell i hi
        rw [ea] at e0
        exact e0.trans hv
      exact ⟨p', o', q, rfl, World.block_lt_of_cell? W _ (hall 0 _ rfl), hall⟩

end Go.Proofs.YtngcbhbcocnbeaaGreat
namespace Go.Proofs.YtngcbhbcocnbeaaGreat
open Go.ChangeShapes Go.WideShapes Go.ChangeAt Go.RowKit Go.Joins Go.Deep

structure Bk where
  p : Pf
  t : ByteArray
def Bk.cs (q : Bk) : List Value := [.bool q.p.s, .int .i64 q.p.H.toInt, .int .i64 q.p.L.toInt, .int .i64 q.p.b, .string q.t]
def Bk.zero : Bk := ⟨Pf.zero, ⟨#[]⟩⟩
def KBk : Kd Bk := ⟨5, Bk.cs, fun _ => rfl, fun x u h => by
  simp [Bk.cs] at h
  rcases h with rfl | rfl | rfl | rfl | rfl <;> rfl⟩
theorem Tryz.tyBk : GTy KBk (.agg #[.bool false, .int .i64 0, .int .i64 0, .int .i64 0, .string ⟨#[]⟩]) 48 Tryz.prog 38 71 := ⟨Tryz.underlying38, by kernel_rfl, rfl, by omega⟩

theorem rowBk {w : World} {a : Option Addr} {ps : List Bk} (h : RowG KBk w a ps) (j : Nat) (hj : j < ps.length) : ∃ p o q, a = some ⟨p, o, none⟩ ∧ p < w.heap.size ∧ ps[j]? = some q ∧
    w.cell? ⟨p, o + j * 5, none⟩ = some (.bool q.p.s) ∧ w.cell? ⟨p, o + j * 5 + 1, none⟩ = some (.int .i64 q.p.H.toInt) ∧ w.cell? ⟨p, o + j * 5 + 2, none⟩ = some (.int .i64 q.p.L.toInt) ∧ w.cell? ⟨p, o + j * 5 + 3, none⟩ = some (.int .i64 q.p.b) ∧ w.cell? ⟨p, o + j * 5 + 4, none⟩ = some (.string q.t) := by
  obtain ⟨p, o, q, ha, hp, hq, c⟩ := h j hj
  exact ⟨p, o, q, ha, hp, hq, c 0 _ rfl, c 1 _ rfl, c 2 _ rfl, c 3 _ rfl, c 4 _ rfl⟩
theorem rowBk0 {w : World} {g n cap B : Nat} {t : TypeId} {ps : List Bk} (h : OwnG KBk t w B (.slice (some ⟨g, 0, none⟩) n cap) ps) (j : Nat) (hj : j < ps.length) : ∃ q, g < w.heap.size ∧ ps[j]? = some q ∧
    w.cell? ⟨g, j * 5, none⟩ = some (.bool q.p.s) ∧ w.cell? ⟨g, j * 5 + 1, none⟩ = some (.int .i64 q.p.H.toInt) ∧ w.cell? ⟨g, j * 5 + 2, none⟩ = some (.int .i64 q.p.L.toInt) ∧ w.cell? ⟨g, j * 5 + 3, none⟩ = some (.int .i64 q.p.b) ∧ w.cell? ⟨g, j * 5 + 4, none⟩ = some (.string q.t) := by
  obtain ⟨p, o, q, ha, hp, hq, c0, c1, c2, c3, c4⟩ := rowBk h.row j hj
  simp only [Option.some.injEq, Addr.mk.injEq, and_true] at ha
  obtain ⟨rfl, rfl⟩ := ha
  rw [Nat.zero_add] at c0 c1 c2 c3 c4
  exact ⟨q, hp, hq, c0, c1, c2, c3, c4⟩
theorem putBk {t : TypeId} {w : World} {B g n cap : Nat} {ps : List Bk} (h : OwnG KBk t w B (.slice (some ⟨g, 0, none⟩) n cap) ps) (hn : n = ps.length) (j : Nat) (hj : j < n) (q : Bk) :
    OwnG KBk t (((((w.setCell ⟨g, j * 5, none⟩ (.bool q.p.s)).setCell ⟨g, j * 5 + 1, none⟩ (.int .i64 q.p.H.toInt)).setCell ⟨g, j * 5 + 2, none⟩ (.int .i64 q.p.L.toInt)).setCell ⟨g, j * 5 + 3, none⟩ (.int .i64 q.p.b)).setCell ⟨g, j * 5 + 4, none⟩ (.string q.t)) B (.slice (some ⟨g, 0, none⟩) n cap) (ps.set j q) := h.put hn j hj q
theorem frzBk {t : TypeId} {w : World} {B g n cap : Nat} {ps : List Bk} (h : OwnG KBk t w B (.slice (some ⟨g, 0, none⟩) n cap) ps) (j : Nat) :
    w.frozen? ⟨g, j * 5, none⟩ = false ∧ w.frozen? ⟨g, j * 5 + 1, none⟩ = false ∧ w.frozen? ⟨g, j * 5 + 2, none⟩ = false ∧ w.frozen? ⟨g, j * 5 + 3, none⟩ = false ∧ w.frozen? ⟨g, j * 5 + 4, none⟩ = false := ⟨h.frozen _, h.frozen _, h.frozen _, h.frozen _, h.frozen _⟩

set_option maxHeartbeats 1000000 in
theorem toBlock_any (q : Bk) (w : World) :
    Calls Tryz.prog 91 #[.agg #[.bool q.p.s, .int .i64 q.p.H.toInt, .int .i64 q.p.L.toInt, .int .i64 q.p.b, .string q.t]] w fun e w' => e = .returned (.agg #[.bool q.p.s, .int .i64 q.p.H.toInt, .int .i64 q.p.L.toInt, .int .i64 q.p.b, .string q.t]) ∧ Below w.heap.size w w' := by
  go_enter Tryz.func91, Tryz.ntmps91
  go_wp2_with fail
  refine (toPrefix_any q.p.s q.p.H.toInt q.p.L.toInt q.p.b _).mono ?_
  rintro e w1 ⟨rfl, hb1⟩
  have hz1 := hb1.size
  try simp at hz1
  have f10 : w.heap.size < w1.heap.size := by omega
  have f11 : w.heap.size + 1 < w1.heap.size := by omega
  have f12 : w.heap.size + 2 < w1.heap.size := by omega
  refine olds_k (w.heap.size + 3) hb1 ?_ ?_
  · first | omega | (simp; omega) | (simp; done)
  intro hc1 hf1
  go_wp2_with fail
  refine bodyPost_ret (v := .agg #[.bool q.p.s, .int .i64 q.p.H.toInt, .int .i64 q.p.L.toInt, .int .i64 q.p.b, .string q.t]) (by simp [results, Tryz.results91, go_sem, hc1]) rfl ⟨rfl, ?_⟩
  repeat (first | with_reducible exact Below.refl _ _ | (with_reducible refine Below.drew ?_) | (with_reducible refine Below.alloc ?_ ?_ _; rotate_left; (focus (first | omega | (simp; omega) | (simp; done)))) | (with_reducible refine Below.setCell ?_ ?_ _; rotate_left; (focus (first | omega | (simp; omega) | (simp; done)))) | (with_reducible refine Below.trans ?_ (hb1.mono ?_); rotate_left; (focus (first | omega | (simp; omega) | (simp; done)))))

set_option maxHeartbeats 1000000 in
theorem eqBlock_same (q : Bk) (w : World) :
    Calls Tryz.prog 103 #[.agg #[.bool q.p.s, .int .i64 q.p.H.toInt, .int .i64 q.p.L.toInt, .int .i64 q.p.b, .string q.t], .agg #[.bool q.p.s, .int .i64 q.p.H.toInt, .int .i64 q.p.L.toInt, .int .i64 q.p.b, .string q.t]] w fun e w' => e = .returned (.bool true) ∧ Below w.heap.size w w' := by
  go_enter Tryz.func103, Tryz.ntmps103
  go_wp2_with fail
  refine (eqP_same q.p.s q.p.H.toInt q.p.L.toInt q.p.b _).mono ?_
  rintro e w1 ⟨rfl, hb1⟩
  have hz1 := hb1.size
  try simp at hz1
  have f10 : w.heap.size < w1.heap.size := by omega
  have f11 : w.heap.size + 1 < w1.heap.size := by omega
  refine olds_k (w.heap.size + 2) hb1 ?_ ?_
  · first | omega | (simp; omega) | (simp; done)
  intro hc1 hf1
  go_wp2_with fail
  go_ret
  refine ⟨rfl, ?_⟩
  repeat (first | with_reducible exact Below.refl _ _ | (with_reducible refine Below.drew ?_) | (with_reducible refine Below.alloc ?_ ?_ _; rotate_left; (focus (first | omega | (simp; omega) | (simp; done)))) | (with_reducible refine Below.setCell ?_ ?_ _; rotate_left; (focus (first | omega | (simp; omega) | (simp; done)))) | (with_reducible refine Below.trans ?_ (hb1.mono ?_); rotate_left; (focus (first | omega | (simp; omega) | (simp; done)))))

set_option maxHeartbeats 1000000 in
theorem toBlockS_any (a : Option Addr) (n cap : Nat) (ps : List Bk) (w : World) (hn : n = ps.length) (hB : RowG KBk w a ps) (hl : n ≤ 1048576) :
    Calls Tryz.prog 59 #[.slice a n cap] w fun e w' => ∃ g, e = .returned (.slice (some ⟨g, 0, none⟩) n n) ∧ OwnG KBk 71 w' w.heap.size (.slice (some ⟨g, 0, none⟩) n n) ps ∧ Below w.heap.size w w' := by
  obtain ⟨i0, hi, hz0, hz1, hz2⟩ := info_parts Tryz.tyBk.2.1
  have HB := hidP hB
  have HN := hidP hn
  clear hB hn
  go_enter Tryz.func59, Tryz.ntmps59
  go_wp2_with (refine wpList_make_full _ rfl (.tmp 6) (.tmp 6) 38 rfl w.heap.size 71 i0 _ 5 Tryz.tyBk.1 hi hz0 hz1 .i64 .i64 n n n rfl rfl rfl rfl (by rw [hz2]; omega) (by unfold maxLen; omega) (Nat.le_refl _) ?_; intro w1 hown hgrow)
  have HO : Hid (OwnG KBk 71 w1 w.heap.size (.slice (some ⟨w.heap.size, 0, none⟩) n n) (ps.take 0 ++ List.replicate (ps.length - 0) Bk.zero)) := by
    have hm := made_gen KBk Bk.zero (by show 0 < 5; omega) (.agg #[.bool false, .int .i64 0, .int .i64 0, .int .i64 0, .string ⟨#[]⟩]) rfl n
    rw [show n * 5 = n * KBk.k from rfl, hm] at hown
    refine hidP ?_
    unfold OwnG
    rw [Nat.sub_zero, List.take_zero, List.nil_append, List.length_replicate, ← HN.out]; exact hown
  have HW : Hid (Below w.heap.size w w1) := (Below.refl _ w).grown hgrow (Nat.le_refl _) (fun k hk => by cases hk)
  clear hown hgrow
  go_loopw [4] (fun t4 wr => ∃ k : Nat, k ≤ n ∧ t4 = .int .i64 k ∧ OwnG KBk 71 wr w.heap.size (.slice (some ⟨w.heap.size, 0, none⟩) n n) (ps.take k ++ List.replicate (ps.length - k) Bk.zero) ∧ Below w.heap.size w wr) (fun t4 _ => n - (intOf t4).toNat)
  case atStart => exact ⟨0, Nat.zero_le _, rfl, HO.out, HW.out⟩
  case round =>
    obtain ⟨k, hk, rfl, hown, hbel⟩ := hrel
    by_cases hlt : k < n
    · obtain ⟨p, o, q, rfl, hp, hq, c0, c1, c2, c3, c4⟩ := rowBk HB.out k (by rw [← HN.out]; exact hlt)
      have d0 := (hbel.cell hp).trans c0
      have d1 := (hbel.cell hp).trans c1
      have d2 := (hbel.cell hp).trans c2
      have d3 := (hbel.cell hp).trans c3
      have d4 := (hbel.cell hp).trans c4
      have HOw := hidP hown
      have HBel := hidP hbel
      have HQ := hidP hq
      clear hown hbel c0 c1 c2 c3 c4 hq HO HW
      go_wp2_with fail
      refine (toBlock_any q _).mono ?_
      rintro e w2 ⟨rfl, hb2⟩
      have ho2 := HOw.out.later hb2
      have hlen : n = (ps.take k ++ List.replicate (ps.length - k) Bk.zero).length := by rw [List.length_append, List.length_take, List.length_replicate, HN.out]; have := HN.out; omega
      obtain ⟨f0, f1, f2, f3, f4⟩ := frzBk ho2 k
      have hput' := putBk ho2 hlen k hlt q
      rw [copy_stepG Bk.zero ps k q (by rw [← HN.out]; exact hlt) HQ.out] at hput'
      have HP := hidP hput'
      obtain ⟨q', hp', _, e0, e1, e2, e3, e4⟩ := rowBk0 ho2 k (by rw [← hlen]; exact hlt)
      have HBel2 := hidP (HBel.out.trans (hb2.mono HBel.out.size))
      clear hput' ho2 hb2 HBel HOw d0 d1 d2 d3 d4 hlen
      go_wp2_with fail
      go_roundw
      case rel => exact ⟨k + 1, by omega, by go_num, HP.out, ((((HBel2.out.setCell (Nat.le_refl _) _).setCell (Nat.le_refl _) _).setCell (Nat.le_refl _) _).setCell (Nat.le_refl _) _).setCell (Nat.le_refl _) _⟩
      case measure => simp [intOf]; omega
    · have hkn : k = n := by omega
      subst hkn
      have HO2 : Hid (OwnG KBk 71 wr w.heap.size (.slice (some ⟨w.heap.size, 0, none⟩) k k) ps) := by
        have e := HN.out
        rw [e, List.take_length, Nat.sub_self, List.replicate_zero, List.append_nil] at hown
        rw [← e] at hown
        exact hidP hown
      have HBel : Hid (Below w.heap.size w wr) := hbel
      clear hown hbel HO HW
      go_wp2
      go_ret
      exact ⟨_, rfl, HO2.out, HBel.out⟩

set_option maxHeartbeats 1000000 in
theorem eqBlockS_same (a b : Option Addr) (n c d : Nat) (ps : List Bk) (w : World) (hn : n = ps.length) (ha : RowG KBk w a ps) (hb : RowG KBk w b ps) (hl : n ≤ 9000000000) :
    Calls Tryz.prog 71 #[.slice a n c, .slice b n d] w fun e w' => e = .returned (.bool true) ∧ Below w.heap.size w w' := by
  have HA := hidP ha
  have HB := hidP hb
  have HN := hidP hn
  clear ha hb hn
  go_enter Tryz.func71, Tryz.ntmps71
  go_wp2
  go_loopw [5] (fun t5 wr => ∃ k : Nat, k ≤ n ∧ t5 = .int .i64 k ∧ Below w.heap.size w wr) (fun t5 _ => n - (intOf t5).toNat)
  case atStart => exact ⟨0, Nat.zero_le _, rfl, Below.refl _ _⟩
  case round =>
    obtain ⟨k, hk, rfl, hbel⟩ := hrel
    have HW := hidP hbel
    by_cases hlt : k < n
    · obtain ⟨p, o, q, rfl, hp, hq, c0, c1, c2, c3, c4⟩ := rowBk HA.out k (by rw [← HN.out]; exact hlt)
      obtain ⟨p', o', q', rfl, hp', hq', d0, d1, d2, d3, d4⟩ := rowBk HB.out k (by rw [← HN.out]; exact hlt)
      rw [hq] at hq'
      cases hq'
      have c0' := (hbel.cell hp).trans c0
      have c1' := (hbel.cell hp).trans c1
      have c2' := (hbel.cell hp).trans c2
      have c3' := (hbel.cell hp).trans c3
      have c4' := (hbel.cell hp).trans c4
      have d0' := (hbel.cell hp').trans d0
      have d1' := (hbel.cell hp').trans d1
      have d2' := (hbel.cell hp').trans d2
      have d3' := (hbel.cell hp').trans d3
      have d4' := (hbel.cell hp').trans d4
      clear c0 c1 c2 c3 c4 d0 d1 d2 d3 d4 hq hbel
      go_wp2_with fail
      go_region_with (first | (go_at_call 103; refine (eqBlock_same q _).mono ?_; rintro e w2 ⟨rfl, hb2⟩))
      all_goals
        have HW2 := hidP (HW.out.drew.trans (hb2.mono HW.out.drew.size))
        clear hb2
        go_wp2
        go_roundw
        case rel => exact ⟨k + 1, by omega, by go_num, HW2.out⟩
        case measure => simp [intOf]; omega
    · have hkn : k = n := by omega
      subst hkn
      clear hbel
      go_wp2
      go_ret
      exact ⟨rfl, HW.out⟩

theorem Tryz.cellsBk : Tryz.prog.cellsOf 132 = 5 := by kernel_rfl

end Go.Proofs.YtngcbhbcocnbeaaGreat
namespace Go.Proofs.YtngcbhbcocnbeaaGreat
open Go.RowKit

/-- A byte that an owner may have. -/
def obB (c : Int) : Bool := (decide (97 ≤ c) && decide (c ≤ 122)) || ((decide (48 ≤ c) && decide (c ≤ 57)) || c == 45)
theorem ret_b {a b : Bool} (h : a = b) : Ending.returned (.bool a) = .returned (.bool b) := by rw [h]
/-- The first k bytes are such. -/
def obk (s : ByteArray) (k : Nat) : Bool := (s.data.toList.take k).all (fun c => obB (c.toNat : Int))
def ownB (s : ByteArray) : Bool := (decide (1 ≤ s.size) && decide (s.size ≤ 12)) && obk s s.size

set_option maxHeartbeats 400000 in
theorem l1InO_any (a b c : Int) (w : World) :
    Calls Tryz.prog 87 #[.int .i64 a, .int .i64 b, .int .i64 c] w fun e w' => e = .returned (.bool (decide (b ≤ a) && decide (a ≤ c))) ∧ w' = w := by
  by_cases h0 : b ≤ a
  · by_cases h1 : a ≤ c
    · go_enter Tryz.func87, Tryz.ntmps87
      go_wp2
      go_ret
      exact ⟨ret_b (Eq.symm (by rw [decide_eq_true h0, decide_eq_true h1]; rfl)), rfl⟩
    · go_enter Tryz.func87, Tryz.ntmps87
      go_wp2
      go_ret
      exact ⟨ret_b (Eq.symm (by simp; omega)), rfl⟩
  · go_enter Tryz.func87, Tryz.ntmps87
    go_wp2
    go_ret
    exact ⟨ret_b (Eq.symm (by rw [decide_eq_false (by omega : ¬ b ≤ a), Bool.false_and])), rfl⟩

theorem l1InO_r (a b c : Int) (r : Bool) (h : (decide (b ≤ a) && decide (a ≤ c)) = r) (w : World) :
    Calls Tryz.prog 87 #[.int .i64 a, .int .i64 b, .int .i64 c] w fun e w' => e = .returned (.bool r) ∧ w' = w := by
  rw [← h]; exact l1InO_any a b c w

set_option maxHeartbeats 1000000 in
theorem isOwnerByte_any (c : Int) (w : World) :
    Calls Tryz.prog 133 #[.int .u8 c] w fun e w' => e = .returned (.bool (obB c)) ∧ w' = w := by
  have hv : obB c = ((decide (97 ≤ c) && decide (c ≤ 122)) || ((decide (48 ≤ c) && decide (c ≤ 57)) || c == 45)) := rfl
  rw [hv]
  clear hv
  cases h0 : decide (97 ≤ c) <;> cases h1 : decide (c ≤ 122) <;> cases h2 : decide (48 ≤ c) <;> cases h3 : decide (c ≤ 57) <;> cases h4 : (c == 45)
  all_goals
    go_enter Tryz.func133, Tryz.ntmps133
    go_wp2
    go_ret
    exact ⟨rfl, rfl⟩

theorem obk_snoc (s : ByteArray) (k : Nat) (h : k < s.size) : obk s (k + 1) = (obk s k && obB ((s[k]'h).toNat : Int)) := by
  unfold obk
  rw [List.take_succ_eq_append_getElem (by simpa using h), List.all_append, List.all_cons, List.all_nil, Bool.and_true]; rfl
theorem obk_not (s : ByteArray) (k : Nat) (h : k < s.size) (hf : obB ((s[k]'h).toNat : Int) = false) : obk s s.size = false := by
  unfold obk
  rw [List.all_eq_false]
  refine ⟨s[k], ?_, by simp [hf]⟩
  rw [List.take_of_length_le (by simp)]
  show s.data[k] ∈ _
  simp

set_option maxHeartbeats 1000000 in
theorem iOwnerOk_any (s : ByteArray) (w : World) (hs : s.size ≤ 9223372036854775807) :
    Calls Tryz.prog 116 #[.string s] w fun e w' => e = .returned (.bool (ownB s)) ∧ w' = w := by
  by_cases h1 : s.size < 1
  · have hv : ownB s = false := by simp [ownB]; omega
    rw [hv]
    go_enter Tryz.func116, Tryz.ntmps116
    go_wp2
    go_ret
    exact ⟨rfl, rfl⟩
  by_cases h2 : 12 < s.size
  · have hv : ownB s = false := by simp [ownB]; omega
    rw [hv]
    go_enter Tryz.func116, Tryz.ntmps116
    go_wp2
    go_ret
    exact ⟨rfl, rfl⟩
  have hv : ownB s = obk s s.size := by
    unfold ownB
    rw [decide_eq_true (by omega : 1 ≤ s.size), decide_eq_true (by omega : s.size ≤ 12)]; rfl
  rw [hv]
  have HV := hidP hv
  clear hv
  go_enter Tryz.func116, Tryz.ntmps116
  go_wp2
  go_loop [3, 14] (fun _ i => ∃ k : Nat, k ≤ s.size ∧ i = .int .i64 k ∧ obk s k = true) (fun _ i => s.size - (intOf i).toNat)
  case atStart => exact ⟨0, Nat.zero_le _, rfl, by unfold obk; rfl⟩
  case round =>
    obtain ⟨k, hk, rfl, hall⟩ := hrel
    have HA := hidP hall
    clear hall
    by_cases hlt : k < s.size
    · cases hc : obB (s[k].toNat : Int)
      · have HF := hidP (obk_not s k hlt hc)
        go_wp2_with (go_at_call 133; refine (isOwnerByte_any _ _).mono ?_; rintro e w' ⟨rfl, rfl⟩)
        go_ret
        exact ⟨ret_b HF.out.symm, rfl⟩
      · have HF := hidP (obk_snoc s k hlt)
        go_wp2_with (go_at_call 133; refine (isOwnerByte_any _ _).mono ?_; rintro e w' ⟨rfl, rfl⟩)
        go_round
        case rel => exact ⟨k + 1, by omega, by go_num, by rw [HF.out, HA.out, hc]; rfl⟩
        case measure => simp [intOf]; omega
    · have HF : Hid (obk s s.size = obk s k) := hidP (by rw [show k = s.size by omega])
      go_wp2
      go_ret
      exact ⟨ret_b (by rw [HF.out, HA.out]), rfl⟩

set_option maxHeartbeats 2000000 in
theorem sOwnerOk_any (s : ByteArray) (w : World) (hs : s.size ≤ 9223372036854775807) :
    Calls Tryz.prog 86 #[.string s] w fun e w' => e = .returned (.bool (ownB s)) ∧ w' = w := by
  go_enter Tryz.func86, Tryz.ntmps86
  go_wp2
  go_loop [3] (fun i => ∃ k : Nat, k ≤ s.size ∧ i = .int .i64 k ∧ obk s k = true) (fun i => s.size - (intOf i).toNat)
  case atStart => exact ⟨0, Nat.zero_le _, rfl, by unfold obk; rfl⟩
  case round =>
    obtain ⟨k, hk, rfl, hall⟩ := hrel
    have HA := hidP hall
    clear hall
    by_cases hlt : k < s.size
    · cases hc : obB (s[k].toNat : Int)
      · have HF : Hid (ownB s = false) := by
          have := obk_not s k hlt hc
          refine hidP ?_
          unfold ownB; rw [this, Bool.and_false]
        have q1 : (decide ((97 : Int) ≤ (s[k].toNat : Int)) && decide ((s[k].toNat : Int) ≤ 122)) = false := by
          revert hc; unfold obB; cases (decide ((97 : Int) ≤ (s[k].toNat : Int)) && decide ((s[k].toNat : Int) ≤ 122)) <;> simp
        have q2 : (decide ((48 : Int) ≤ (s[k].toNat : Int)) && decide ((s[k].toNat : Int) ≤ 57)) = false := by
          revert hc; unfold obB; cases (decide ((48 : Int) ≤ (s[k].toNat : Int)) && decide ((s[k].toNat : Int) ≤ 57)) <;> simp
        have hu : wrap64 (s[k].toNat : Int) = (s[k].toNat : Int) := by have := s[k].toNat_lt; rw [wrap64]; omega
        have q3 : ((s[k].toNat : Int) != 45) = true := by
          revert hc; unfold obB; rw [bne]; cases ((s[k].toNat : Int) == 45) <;> simp
        go_wp2_with (go_at_call 87; refine (l1InO_r _ _ _ _ (by first | exact q1 | exact q2) _).mono ?_; rintro e w' ⟨rfl, rfl⟩)
        go_ret
        exact ⟨ret_b HF.out.symm, rfl⟩
      · have HF := hidP (obk_snoc s k hlt)
        have hu : wrap64 (s[k].toNat : Int) = (s[k].toNat : Int) := by have := s[k].toNat_lt; rw [wrap64]; omega
        cases q1 : (decide ((97 : Int) ≤ (s[k].toNat : Int)) && decide ((s[k].toNat : Int) ≤ 122))
        · cases q2 : (decide ((48 : Int) ≤ (s[k].toNat : Int)) && decide ((s[k].toNat : Int) ≤ 57))
          · have q3 : ((s[k].toNat : Int) != 45) = false := by
              revert hc; unfold obB; rw [q1, q2, bne]; cases ((s[k].toNat : Int) == 45) <;> simp
            go_wp2_with (go_at_call 87; refine (l1InO_r _ _ _ _ (by first | exact q1 | exact q2) _).mono ?_; rintro e w' ⟨rfl, rfl⟩)
            go_round
            case rel => exact ⟨k + 1, by omega, by go_num, by rw [HF.out, HA.out, hc]; rfl⟩
            case measure => simp [intOf]; omega
          · go_wp2_with (go_at_call 87; refine (l1InO_r _ _ _ _ (by first | exact q1 | exact q2) _).mono ?_; rintro e w' ⟨rfl, rfl⟩)
            go_round
            case rel => exact ⟨k + 1, by omega, by go_num, by rw [HF.out, HA.out, hc]; rfl⟩
            case measure => simp [intOf]; omega
        · go_wp2_with (go_at_call 87; refine (l1InO_r _ _ _ _ (by first | exact q1 | exact q2) _).mono ?_; rintro e w' ⟨rfl, rfl⟩)
          go_round
          case rel => exact ⟨k + 1, by omega, by go_num, by rw [HF.out, HA.out, hc]; rfl⟩
          case measure => simp [intOf]; omega
    · have HF : Hid (ownB s = (decide ((1 : Int) ≤ (s.size : Int)) && decide ((s.size : Int) ≤ 12))) := by
        have hke : k = s.size := by omega
        refine hidP ?_
        unfold ownB
        rw [← hke, HA.out, Bool.and_true]
        congr 1 <;> exact decide_eq_decide.mpr (by omega)
      go_wp2_with (go_at_call 87; refine (l1InO_any _ _ _ _).mono ?_; rintro e w' ⟨rfl, rfl⟩)
      go_ret
      exact ⟨ret_b HF.out.symm, rfl⟩

end Go.Proofs.YtngcbhbcocnbeaaGreat
namespace Go.Proofs.YtngcbhbcocnbeaaGreat
open Go.RowKit

def Pf.pk (p : Pf) : Bool := pokB p.s p.H p.L p.b
def winP (p q : Pf) : Bool := winB p.s p.H p.L p.b q.s q.H q.L q.b
def ovP (p q : Pf) : Bool := winP p q || winP q p
def Pf.ad (p : Pf) : Nat := adrN p.H p.L
def Pf.sz (p : Pf) : Nat := ((wd p.s : Int) - p.b).toNat
/-- q lies wholly behind p. -/
def fol (p q : Pf) : Prop := (p.s = false ∧ q.s = true) ∨ (p.s = q.s ∧ p.ad + 2 ^ p.sz ≤ q.ad)

theorem pk_parts {p : Pf} (h : p.pk = true) : 0 ≤ p.b ∧ p.b ≤ wd p.s ∧ p.ad = p.ad / 2 ^ p.sz * 2 ^ p.sz ∧ p.ad < 2 ^ 128 := by
  obtain ⟨x, hx, rfl⟩ := Sp.of_pok (p := p) h
  have h1 := hx.2.1
  have e : (Sp.pre x).sz = x.n := by show ((wd x.s : Int) - ((wd x.s : Int) - x.n)).toNat = x.n; omega
  refine ⟨?_, ?_, ?_, adr_lt _ _⟩
  · show 0 ≤ (wd x.s : Int) - x.n; omega
  · show (wd x.s : Int) - x.n ≤ (wd x.s : Int); omega
  · rw [e]; exact ok_mult hx
theorem win_iff {p q : Pf} (hp : p.pk = true) (hq : q.pk = true) : winP p q = true ↔ p.s = q.s ∧ q.b ≤ p.b ∧ q.ad ≤ p.ad ∧ p.ad < q.ad + 2 ^ q.sz := by
  obtain ⟨x, hx, rfl⟩ := Sp.of_pok (p := p) hp
  obtain ⟨y, hy, rfl⟩ := Sp.of_pok (p := q) hq
  have h1 := hx.2.1
  have h2 := hy.2.1
  have e : (Sp.pre y).sz = y.n := by show ((wd y.s : Int) - ((wd y.s : Int) - y.n)).toNat = y.n; omega
  have e1 : winP x.pre y.pre = wB x y := win_wB hx hy
  have e2 := one_in (t := ⟨x.s, x.H, x.L, 0⟩) rfl hy
  rw [e1, e, wB_iff]
  rw [wB_iff] at e2
  have e3 : (Sp.pre y).b ≤ (Sp.pre x).b ↔ (wd y.s : Int) - y.n ≤ (wd x.s : Int) - x.n := Iff.rfl
  constructor
  · rintro ⟨a, b, c, d⟩
    have := e2.1 ⟨Nat.zero_le _, b, c, d⟩
    refine ⟨b, ?_, this.2.1, this.2.2⟩
    rw [e3, b]; omega
  · rintro ⟨a, b, c, d⟩
    have := e2.2 ⟨a, c, d⟩
    refine ⟨?_, a, this.2.2⟩
    rw [e3] at b
    have ha : x.s = y.s := a
    rw [ha] at b; omega
theorem win_pk {p q : Pf} (h : winP p q = true) : p.pk = true ∧ q.pk = true := by
  unfold winP winB at h
  rw [Bool.and_eq_true, Bool.and_eq_true] at h
  exact ⟨h.1, h.2.1⟩
theorem sz_mono {p q : Pf} (hq : q.pk = true) (hs : p.s = q.s) (h : q.b ≤ p.b) : p.sz ≤ q.sz := by
  have := (pk_parts hq).2.1
  unfold Pf.sz; rw [hs]; omega
theorem mult_step {a b k : Nat} (ha : a = a / k * k) (hb : b = b / k * k) (h : a < b) : a + k ≤ b := by
  have hk : 0 < k := by
    rcases Nat.eq_zero_or_pos k with rfl | h'
    · simp at ha hb; omega
    · exact h'
  have : a / k < b / k := by
    apply Nat.lt_of_not_le
    intro h'
    have := Nat.mul_le_mul_right k h'
    omega
  have := Nat.mul_le_mul_right k this
  rw [Nat.succ_mul] at this
  omega
theorem mult_down {a m k : Nat} (hmk : m ≤ k) (ha : a = a / 2 ^ k * 2 ^ k) : a = a / 2 ^ m * 2 ^ m := by
  have e : 2 ^ k = 2 ^ (k - m) * 2 ^ m := by rw [← Nat.pow_add]; congr 1; omega
  have hd : 2 ^ m ∣ a := ⟨a / 2 ^ k * 2 ^ (k - m), by
    rw [Nat.mul_comm, Nat.mul_assoc, ← e]; exact ha⟩
  exact (Nat.div_mul_cancel hd).symm
theorem key_lt {p q : Pf} : (keyN p.s p.H p.L : Int) < (keyN q.s q.H q.L : Int) ↔ (p.s = false ∧ q.s = true) ∨ (p.s = q.s ∧ p.ad < q.ad) := by
  have h1 := adr_lt p.H p.L
  have h2 := adr_lt q.H q.L
  unfold keyN Pf.ad
  cases p.s <;> cases q.s <;> simp <;> omega
theorem cmp_neg {p q : Pf} : cmpP p q < 0 ↔ ((p.s = false ∧ q.s = true) ∨ (p.s = q.s ∧ p.ad < q.ad)) ∨ (p.s = q.s ∧ p.ad = q.ad ∧ p.b < q.b) := by
  have k1 := key_lt (p := p) (q := q)
  have k2 := key_lt (p := q) (q := p)
  have ke : (keyN p.s p.H p.L : Int) = (keyN q.s q.H q.L : Int) ↔ p.s = q.s ∧ p.ad = q.ad := by
    have h1 := adr_lt p.H p.L
    have h2 := adr_lt q.H q.L
    unfold keyN Pf.ad
    cases p.s <;> cases q.s <;> simp <;> omega
  unfold cmpP orI cmpW
  rcases Int.lt_trichotomy (keyN p.s p.H p.L : Int) (keyN q.s q.H q.L : Int) with h | h | h
  · have := k1.1 h
    simp [h]; exact Or.inl this
  · have hn : ¬ ((keyN p.s p.H p.L : Int) < (keyN q.s q.H q.L : Int)) := by omega
    have hn2 : ¬ ((keyN q.s q.H q.L : Int) < (keyN p.s p.H p.L : Int)) := by omega
    have hh := ke.1 h
    have nk := fun c => hn (k1.2 c)
    rw [if_neg hn, if_neg hn2]
    simp only [bne_self_eq_false, Bool.false_eq_true, if_false]
    constructor
    · intro hc
      right
      refine ⟨hh.1, hh.2, ?_⟩
      split at hc
      · assumption
      · split at hc <;> omega
    · rintro (c | ⟨_, _, c⟩)
      · exact absurd c nk
      · rw [if_pos c]; omega
  · have hn : ¬ ((keyN p.s p.H p.L : Int) < (keyN q.s q.H q.L : Int)) := by omega
    have hh := k2.1 h
    have nk := fun c => hn (k1.2 c)
    rw [if_neg hn, if_pos h]
    simp only [show ((1 : Int) != 0) = true from rfl, if_true]
    constructor
    · intro hc; omega
    · rintro (c | ⟨a, b, _⟩)
      · exact absurd c nk
      · have := ke.2 ⟨a, b⟩; omega
theorem fol_of {p q : Pf} (hp : p.pk = true) (hq : q.pk = true) (hc : cmpP p q < 0) (ho : ovP p q = false) : fol p q := by
  unfold ovP at ho
  rw [Bool.or_eq_false_iff] at ho
  obtain ⟨p1, p2, p3, p4⟩ := pk_parts hp
  obtain ⟨q1, q2, q3, q4⟩ := pk_parts hq
  have hpz : 0 < 2 ^ p.sz := Nat.pow_pos (by omega)
  rcases cmp_neg.1 hc with (h | ⟨h, ha⟩) | ⟨h, ha, hb⟩
  · exact Or.inl h
  · right
    refine ⟨h, ?_⟩
    by_cases hz : q.sz < p.sz
    · apply Nat.le_of_not_lt
      intro hlt
      have : winP q p = true := (win_iff hq hp).2 ⟨h.symm, by unfold Pf.sz at hz; rw [h] at hz p2; omega, by omega, hlt⟩
      rw [this] at ho; exact absurd ho.2 (by simp)
    · exact mult_step p3 (mult_down (by omega) q3) ha
  · exfalso
    have : winP q p = true := (win_iff hq hp).2 ⟨h.symm, by omega, by omega, by omega⟩
    rw [this] at ho; exact absurd ho.2 (by simp)
theorem fol_trans {p q r : Pf} (h1 : fol p q) (h2 : fol q r) : fol p r := by
  have hz : 0 < 2 ^ q.sz := Nat.pow_pos (by omega)
  unfold fol at *
  rcases h1 with ⟨a, b⟩ | ⟨a, b⟩ <;> rcases h2 with ⟨c, d⟩ | ⟨c, d⟩
  · rw [b] at c; cases c
  · exact Or.inl ⟨a, c ▸ b⟩
  · exact Or.inl ⟨a ▸ c, d⟩
  · exact Or.inr ⟨a.trans c, by omega⟩
theorem fol_ov {p q : Pf} (hp : p.pk = true) (hq : q.pk = true) (h : fol p q) : ovP p q = false := by
  have hz : 0 < 2 ^ p.sz := Nat.pow_pos (by omega)
  unfold ovP
  rw [Bool.or_eq_false_iff]
  constructor
  · cases e : winP p q
    · rfl
    · obtain ⟨a, _, b, c⟩ := (win_iff hp hq).1 e
      rcases h with ⟨d, f⟩ | ⟨_, d⟩
      · rw [d, f] at a; cases a
      · omega
  · cases e : winP q p
    · rfl
    · obtain ⟨a, _, b, c⟩ := (win_iff hq hp).1 e
      rcases h with ⟨d, f⟩ | ⟨_, d⟩
      · rw [d, f] at a; cases a
      · omega
theorem ov_symm (p q : Pf) : ovP p q = ovP q p := by unfold ovP; exact Bool.or_comm _ _
/-- What lies in two that follow each other, follows too. -/
theorem fol_in {t u p q : Pf} (h1 : winP t p = true) (h2 : winP u q = true) (h : fol p q) : fol t u := by
  obtain ⟨ht, hp⟩ := win_pk h1
  obtain ⟨hu, hq⟩ := win_pk h2
  obtain ⟨a1, a2, a3, a4⟩ := (win_iff ht hp).1 h1
  obtain ⟨b1, b2, b3, b4⟩ := (win_iff hu hq).1 h2
  rcases h with ⟨c, d⟩ | ⟨c, d⟩
  · exact Or.inl ⟨a1.trans c, b1.trans d⟩
  · refine Or.inr ⟨a1.trans (c.trans b1.symm), ?_⟩
    have hm := mult_step (pk_parts ht).2.2.1 (mult_down (sz_mono hp a1 a2) (a := p.ad + 2 ^ p.sz) (by
      have h3 := (pk_parts hp).2.2.1
      rw [Nat.add_div_right _ (Nat.pow_pos (by omega)), Nat.succ_mul]; omega)) a4
    omega
theorem fol_not {t p q : Pf} (h1 : winP t p = true) (h2 : winP t q = true) (h : fol p q) : False := by
  have := fol_in h1 h2 h
  have hz : 0 < 2 ^ t.sz := Nat.pow_pos (by omega)
  rcases this with ⟨a, b⟩ | ⟨_, b⟩
  · rw [a] at b; cases b
  · omega
theorem same_of {p q : Pf} (hp : p.pk = true) (hq : q.pk = true) (hb : p.b = q.b) (ho : ovP p q = true) : ¬ cmpP p q < 0 := by
  intro hc
  unfold ovP at ho
  have hpz : 0 < 2 ^ p.sz := Nat.pow_pos (by omega)
  have key : p.s = q.s ∧ p.ad = q.ad := by
    rcases Bool.or_eq_true _ _ ▸ ho with h | h
    · obtain ⟨a, _, b, c⟩ := (win_iff hp hq).1 h
      have e : p.sz = q.sz := by unfold Pf.sz; rw [a, hb]
      refine ⟨a, ?_⟩
      rcases Nat.lt_or_ge q.ad p.ad with h' | h'
      · have := mult_step (e ▸ (pk_parts hq).2.2.1) ((pk_parts hp).2.2.1) h'
        rw [e] at this; omega
      · omega
    · obtain ⟨a, _, b, c⟩ := (win_iff hq hp).1 h
      have e : q.sz = p.sz := by unfold Pf.sz; rw [a, hb]
      refine ⟨a.symm, ?_⟩
      rcases Nat.lt_or_ge p.ad q.ad with h' | h'
      · have := mult_step ((pk_parts hp).2.2.1) (e ▸ (pk_parts hq).2.2.1) h'
        omega
      · omega
  rcases cmp_neg.1 hc with (⟨a, b⟩ | ⟨_, b⟩) | ⟨_, _, b⟩
  · rw [key.1, b] at a; cases a
  · omega
  · omega

/-- A pool that is right. -/
def okPl (q : Pl) : Bool := q.p.pk && (decide (q.p.b ≤ q.n) && (decide (q.n ≤ (wd q.p.s : Int)) && decide (q.n ≤ q.p.b + 20)))
def folB (p q : Pf) : Bool := decide (cmpP p q < 0) && !ovP p q
/-- Pools from here on are right, behind r. -/
def poolsF : Option Pf → List Pl → Bool
  | _, [] => true
  | r, q :: t => (okPl q && (match r with | none => true | some r => folB r q.p)) && poolsF (some q.p) t
/-- The place of the first pool that has p. -/
def lpF (p : Pf) : Int → List Pl → Int
  | _, [] => -1
  | i, q :: t => if winP p q.p = true then i else lpF p (i + 1) t
def carB (ps : List Pl) (p : Pf) : Bool := ps.any fun q => (p.b == q.n) && winP p q.p
def bitsAt (ps : List Pl) (k : Int) : Int := (ps.getD k.toNat Pl.zero).n
def blocksI (ps : List Pl) : Option Pf → List Bk → Bool
  | _, [] => true
  | r, q :: t => ((ownB q.t && carB ps q.p) && (match r with | none => true | some r => folB r q.p)) && blocksI ps (some q.p) t
def blocksS (ps : List Pl) : Option Pf → List Bk → Bool
  | _, [] => true
  | r, q :: t => ((((q.p.pk && ownB q.t) && decide (0 ≤ lpF q.p 0 ps)) && (bitsAt ps (lpF q.p 0 ps) == q.p.b)) && (match r with | none => true | some r => decide (cmpP r q.p < 0))) && blocksS ps (some q.p) t
def planB (ps : List Pl) (bs : List Bk) : Bool := (decide (ps.length ≤ 20) && decide (bs.length ≤ 60)) && (poolsF none ps && blocksI ps none bs)

/-- Pools no two of which overlap. -/
def Dsj (ps : List Pl) : Prop := ps.Pairwise (fun q r => fol q.p r.p) ∧ ∀ q ∈ ps, okPl q = true
theorem okPl_pk {q : Pl} (h : okPl q = true) : q.p.pk = true := by unfold okPl at h; rw [Bool.and_eq_true] at h; exact h.1
theorem pools_dsj : ∀ (ps : List Pl) (r : Option Pf), (∀ p, r = some p → p.pk = true) → poolsF r ps = true → Dsj ps ∧ ∀ p, r = some p → ∀ q ∈ ps, fol p q.p
  | [], r, _, _ => ⟨⟨List.Pairwise.nil, fun _ h => by cases h⟩, fun _ _ _ h => by cases h⟩
  | q :: t, r, hr, h => by
      unfold poolsF at h
      rw [Bool.and_eq_true, Bool.and_eq_true] at h
      obtain ⟨⟨h1, h2⟩, h3⟩ := h
      have hq := okPl_pk h1
      obtain ⟨⟨d1, d2⟩, d3⟩ := pools_dsj t (some q.p) (fun p e => by cases e; exact hq) h3
      have d3' := d3 q.p rfl
      refine ⟨⟨List.pairwise_cons.2 ⟨fun r hr => d3' r hr, d1⟩, fun x hx => ?_⟩, fun p e x hx => ?_⟩
      · rcases List.mem_cons.1 hx with rfl | hx
        · exact h1
        · exact d2 x hx
      · subst e
        have h2' : folB p q.p = true := h2
        unfold folB at h2'
        rw [Bool.and_eq_true, decide_eq_true_eq, Bool.not_eq_true'] at h2'
        have hf := fol_of (hr p rfl) hq h2'.1 h2'.2
        rcases List.mem_cons.1 hx with rfl | hx
        · exact hf
        · exact fol_trans hf (d3' x hx)

theorem lpF_shift (p : Pf) : ∀ (ps : List Pl) (i : Int), 0 ≤ i → (lpF p i ps = -1 ∧ lpF p 0 ps = -1) ∨ (0 ≤ lpF p 0 ps ∧ lpF p i ps = lpF p 0 ps + i)
  | [], i, _ => Or.inl ⟨rfl, rfl⟩
  | q :: t, i, hi => by
      unfold lpF
      by_cases h : winP p q.p = true
      · rw [if_pos h, if_pos h]; exact Or.inr ⟨by omega, by omega⟩
      · rw [if_neg h, if_neg h]
        rcases lpF_shift p t (i + 1) (by omega) with ⟨a, b⟩ | ⟨a, b⟩ <;> rcases lpF_shift p t (0 + 1) (by omega) with ⟨c, d⟩ | ⟨c, d⟩
        · exact Or.inl ⟨a, c⟩
        · omega
        · omega
        · exact Or.inr ⟨by omega, by omega⟩
theorem lpF_step (p : Pf) (q : Pl) (t : List Pl) (h : winP p q.p = false) : (lpF p 0 (q :: t) = -1 ∧ lpF p 0 t = -1) ∨ (0 ≤ lpF p 0 t ∧ lpF p 0 (q :: t) = lpF p 0 t + 1) := by
  have e : lpF p 0 (q :: t) = lpF p (0 + 1) t := by
    conv => lhs; unfold lpF
    rw [if_neg (by rw [h]; simp)]
  rw [e]
  exact lpF_shift p t (0 + 1) (by omega)
theorem carved_eq (p : Pf) : ∀ ps : List Pl, Dsj ps → carB ps p = (decide (0 ≤ lpF p 0 ps) && (bitsAt ps (lpF p 0 ps) == p.b))
  | [], _ => rfl
  | q :: t, hd => by
      have hp := List.pairwise_cons.1 hd.1
      have ih := carved_eq p t ⟨hp.2, fun x hx => hd.2 x (List.mem_cons_of_mem _ hx)⟩
      have hc : carB (q :: t) p = (((p.b == q.n) && winP p q.p) || carB t p) := rfl
      rw [hc]
      cases h : winP p q.p
      · rw [Bool.and_false, Bool.false_or, ih]
        rcases lpF_step p q t h with ⟨a, b⟩ | ⟨a, b⟩
        · rw [a, b]; rfl
        · rw [b]
          have e1 : decide (0 ≤ lpF p 0 t) = true := decide_eq_true a
          have e2 : decide (0 ≤ lpF p 0 t + 1) = true := decide_eq_true (by omega)
          have e3 : bitsAt (q :: t) (lpF p 0 t + 1) = bitsAt t (lpF p 0 t) := by
            unfold bitsAt
            rw [show (lpF p 0 t + 1).toNat = (lpF p 0 t).toNat + 1 by omega, List.getD_cons_succ]
          rw [e1, e2, e3]
      · have hn : carB t p = false := by
          unfold carB
          rw [List.any_eq_false]
          intro x hx hw
          rw [Bool.and_eq_true] at hw
          exact fol_not h hw.2 (hp.1 x hx)
        rw [hn, Bool.and_true, Bool.or_false]
        have e : lpF p 0 (q :: t) = 0 := by unfold lpF; rw [if_pos h]
        rw [e]
        show (p.b == q.n) = (true && (q.n == p.b))
        rw [Bool.true_and, Bool.beq_comm]
theorem carB_pk {ps : List Pl} {p : Pf} (h : carB ps p = true) : p.pk = true := by
  obtain ⟨q, _, h⟩ := List.any_eq_true.1 h
  rw [Bool.and_eq_true] at h
  exact (win_pk h.2).1
theorem pw_three {ps : List Pl} (hd : ps.Pairwise (fun q r => fol q.p r.p)) {a b : Pl} (ha : a ∈ ps) (hb : b ∈ ps) : a = b ∨ fol a.p b.p ∨ fol b.p a.p := by
  induction ps with
  | nil => cases ha
  | cons x t ih =>
    have hp := List.pairwise_cons.1 hd
    rcases List.mem_cons.1 ha with ha' | ha' <;> rcases List.mem_cons.1 hb with hb' | hb'
    · exact Or.inl (ha'.trans hb'.symm)
    · subst ha'; exact Or.inr (Or.inl (hp.1 b hb'))
    · subst hb'; exact Or.inr (Or.inr (hp.1 a ha'))
    · exact ih hp.2 ha' hb'
/-- Two that are carved and rise lie apart. -/
theorem carved_apart {ps : List Pl} (hd : Dsj ps) {r p : Pf} (hr : carB ps r = true) (hp : carB ps p = true) : folB r p = decide (cmpP r p < 0) := by
  unfold folB
  cases hc : decide (cmpP r p < 0)
  · rfl
  · rw [decide_eq_true_eq] at hc
    obtain ⟨a, ha, h1⟩ := List.any_eq_true.1 hr
    obtain ⟨b, hb, h2⟩ := List.any_eq_true.1 hp
    rw [Bool.and_eq_true, beq_iff_eq] at h1 h2
    have hrp := (win_pk h1.2).1
    have hpp := (win_pk h2.2).1
    have : ovP r p = false := by
      rcases pw_three hd.1 ha hb with rfl | h | h
      · cases ho : ovP r p
        · rfl
        · exact absurd hc (same_of hrp hpp (h1.1.trans h2.1.symm) ho)
      · exact fol_ov hrp hpp (fol_in h1.2 h2.2 h)
      · rw [ov_symm]; exact fol_ov hpp hrp (fol_in h2.2 h1.2 h)
    rw [this]; rfl
theorem blocks_same {ps : List Pl} (hd : Dsj ps) : ∀ (bs : List Bk) (r : Option Pf), (∀ p, r = some p → carB ps p = true) → blocksS ps r bs = blocksI ps r bs
  | [], _, _ => rfl
  | q :: t, r, hr => by
      unfold blocksS blocksI
      have hc := carved_eq q.p ps hd
      cases hcar : carB ps q.p
      · rw [Bool.and_false, Bool.false_and, Bool.false_and]
        rw [hcar] at hc
        rw [Bool.and_assoc (q.p.pk && ownB q.t), ← hc, Bool.and_false, Bool.false_and, Bool.false_and]
      · rw [blocks_same hd t (some q.p) (fun p e => by cases e; exact hcar)]
        rw [hcar] at hc
        rw [Bool.and_assoc (q.p.pk && ownB q.t), ← hc, carB_pk hcar, Bool.true_and, Bool.and_true]
        congr 2
        cases r with
        | none => rfl
        | some r => exact (carved_apart hd (hr r rfl) hcar).symm

end Go.Proofs.YtngcbhbcocnbeaaGreat
namespace Go.Proofs.YtngcbhbcocnbeaaGreat
open Go.RowKit

set_option maxHeartbeats 1000000 in
theorem iPrefixOk_any (s : Bool) (H L : BitVec 64) (b : Int) (w : World) :
    Calls Tryz.prog 129 #[.agg #[.bool s, .int .i64 H.toInt, .int .i64 L.toInt, .int .i64 b]] w fun e w' => e = .returned (.bool (pokB s H L b)) ∧ Below w.heap.size w w' := by
  cases hp : pokB s H L b
  · have HS : Hid (∀ w, _) := spanOf_no s H L b hp
    clear hp
    go_enter Tryz.func129, Tryz.ntmps129
    go_wp2_with fail
    refine (HS.out _).mono ?_
    rintro e w1 ⟨rfl, hb1⟩
    have hz1 := hb1.size
    try simp at hz1
    have f10 : w.heap.size < w1.heap.size := by omega
    refine olds_k (w.heap.size + 1) hb1 ?_ ?_
    · first | omega | (simp; omega) | (simp; done)
    intro hc1 hf1
    go_wp2_with fail
    go_ret
    refine ⟨rfl, ?_⟩
    repeat (first | with_reducible exact Below.refl _ _ | (with_reducible refine Below.drew ?_) | (with_reducible refine Below.alloc ?_ ?_ _; rotate_left; (focus (first | omega | (simp; omega) | (simp; done)))) | (with_reducible refine Below.setCell ?_ ?_ _; rotate_left; (focus (first | omega | (simp; omega) | (simp; done)))) | (with_reducible refine Below.trans ?_ (hb1.mono ?_); rotate_left; (focus (first | omega | (simp; omega) | (simp; done)))))
  · obtain ⟨n, hn⟩ : ∃ n : Nat, (n : Int) = (wd s : Int) - b := ⟨((wd s : Int) - b).toNat, by have := (pokB_parts hp).2.1; omega⟩
    have HS : Hid (∀ w, _) := spanOf_yes s H L b n hn hp
    clear hp hn
    go_enter Tryz.func129, Tryz.ntmps129
    go_wp2_with fail
    refine (HS.out _).mono ?_
    rintro e w1 ⟨rfl, hb1⟩
    have hz1 := hb1.size
    try simp at hz1
    have f10 : w.heap.size < w1.heap.size := by omega
    refine olds_k (w.heap.size + 1) hb1 ?_ ?_
    · first | omega | (simp; omega) | (simp; done)
    intro hc1 hf1
    go_wp2_with fail
    go_ret
    refine ⟨rfl, ?_⟩
    repeat (first | with_reducible exact Below.refl _ _ | (with_reducible refine Below.drew ?_) | (with_reducible refine Below.alloc ?_ ?_ _; rotate_left; (focus (first | omega | (simp; omega) | (simp; done)))) | (with_reducible refine Below.setCell ?_ ?_ _; rotate_left; (focus (first | omega | (simp; omega) | (simp; done)))) | (with_reducible refine Below.trans ?_ (hb1.mono ?_); rotate_left; (focus (first | omega | (simp; omega) | (simp; done)))))

end Go.Proofs.YtngcbhbcocnbeaaGreat
namespace Go.Proofs.YtngcbhbcocnbeaaGreat
open Go.RowKit

theorem box4 {p : Pf} (w : World) (t : TypeId) : (w.alloc (.cells #[.bool p.s, .int .i64 p.H.toInt, .int .i64 p.L.toInt, .int .i64 p.b] t)).cell? ⟨w.heap.size, 0, none⟩ = some (.bool p.s) ∧ (w.alloc (.cells #[.bool p.s, .int .i64 p.H.toInt, .int .i64 p.L.toInt, .int .i64 p.b] t)).cell? ⟨w.heap.size, 1, none⟩ = some (.int .i64 p.H.toInt) ∧ (w.alloc (.cells #[.bool p.s, .int .i64 p.H.toInt, .int .i64 p.L.toInt, .int .i64 p.b] t)).cell? ⟨w.heap.size, 2, none⟩ = some (.int .i64 p.L.toInt) ∧ (w.alloc (.cells #[.bool p.s, .int .i64 p.H.toInt, .int .i64 p.L.toInt, .int .i64 p.b] t)).cell? ⟨w.heap.size, 3, none⟩ = some (.int .i64 p.b) := by
  have h := own_one w 0 t p (Nat.zero_le _)
  exact ⟨World.ownsRow.cellAt h 0 (by show 0 < 1 * 4; omega), World.ownsRow.cellAt h 1 (by show 1 < 1 * 4; omega), World.ownsRow.cellAt h 2 (by show 2 < 1 * 4; omega), World.ownsRow.cellAt h 3 (by show 3 < 1 * 4; omega)⟩
theorem boxPl {q : Pl} (w : World) (t : TypeId) : (w.alloc (.cells #[.bool q.p.s, .int .i64 q.p.H.toInt, .int .i64 q.p.L.toInt, .int .i64 q.p.b, .int .i64 q.n] t)).cell? ⟨w.heap.size, 0, none⟩ = some (.bool q.p.s) ∧ (w.alloc (.cells #[.bool q.p.s, .int .i64 q.p.H.toInt, .int .i64 q.p.L.toInt, .int .i64 q.p.b, .int .i64 q.n] t)).cell? ⟨w.heap.size, 1, none⟩ = some (.int .i64 q.p.H.toInt) ∧ (w.alloc (.cells #[.bool q.p.s, .int .i64 q.p.H.toInt, .int .i64 q.p.L.toInt, .int .i64 q.p.b, .int .i64 q.n] t)).cell? ⟨w.heap.size, 2, none⟩ = some (.int .i64 q.p.L.toInt) ∧ (w.alloc (.cells #[.bool q.p.s, .int .i64 q.p.H.toInt, .int .i64 q.p.L.toInt, .int .i64 q.p.b, .int .i64 q.n] t)).cell? ⟨w.heap.size, 3, none⟩ = some (.int .i64 q.p.b) ∧ (w.alloc (.cells #[.bool q.p.s, .int .i64 q.p.H.toInt, .int .i64 q.p.L.toInt, .int .i64 q.p.b, .int .i64 q.n] t)).cell? ⟨w.heap.size, 4, none⟩ = some (.int .i64 q.n) := by
  have h := own_oneG KPl w 0 t q (Nat.zero_le _)
  exact ⟨World.ownsRow.cellAt h 0 (by show 0 < 1 * 5; omega), World.ownsRow.cellAt h 1 (by show 1 < 1 * 5; omega), World.ownsRow.cellAt h 2 (by show 2 < 1 * 5; omega), World.ownsRow.cellAt h 3 (by show 3 < 1 * 5; omega), World.ownsRow.cellAt h 4 (by show 4 < 1 * 5; omega)⟩
theorem boxBk {q : Bk} (w : World) (t : TypeId) : (w.alloc (.cells #[.bool q.p.s, .int .i64 q.p.H.toInt, .int .i64 q.p.L.toInt, .int .i64 q.p.b, .string q.t] t)).cell? ⟨w.heap.size, 0, none⟩ = some (.bool q.p.s) ∧ (w.alloc (.cells #[.bool q.p.s, .int .i64 q.p.H.toInt, .int .i64 q.p.L.toInt, .int .i64 q.p.b, .string q.t] t)).cell? ⟨w.heap.size, 1, none⟩ = some (.int .i64 q.p.H.toInt) ∧ (w.alloc (.cells #[.bool q.p.s, .int .i64 q.p.H.toInt, .int .i64 q.p.L.toInt, .int .i64 q.p.b, .string q.t] t)).cell? ⟨w.heap.size, 2, none⟩ = some (.int .i64 q.p.L.toInt) ∧ (w.alloc (.cells #[.bool q.p.s, .int .i64 q.p.H.toInt, .int .i64 q.p.L.toInt, .int .i64 q.p.b, .string q.t] t)).cell? ⟨w.heap.size, 3, none⟩ = some (.int .i64 q.p.b) ∧ (w.alloc (.cells #[.bool q.p.s, .int .i64 q.p.H.toInt, .int .i64 q.p.L.toInt, .int .i64 q.p.b, .string q.t] t)).cell? ⟨w.heap.size, 4, none⟩ = some (.string q.t) := by
  have h := own_oneG KBk w 0 t q (Nat.zero_le _)
  exact ⟨World.ownsRow.cellAt h 0 (by show 0 < 1 * 5; omega), World.ownsRow.cellAt h 1 (by show 1 < 1 * 5; omega), World.ownsRow.cellAt h 2 (by show 2 < 1 * 5; omega), World.ownsRow.cellAt h 3 (by show 3 < 1 * 5; omega), World.ownsRow.cellAt h 4 (by show 4 < 1 * 5; omega)⟩
theorem alloc_below (w : World) (o : Obj) : Below w.heap.size w (w.alloc o) := (Below.refl _ _).alloc (Nat.le_refl _) o
theorem alloc_lt (w : World) (o : Obj) : w.heap.size < (w.alloc o).heap.size := by simp
set_option maxRecDepth 10000 in
set_option maxHeartbeats 400000 in
theorem iPoolOk_a (q : Pl) (w : World) (hpk : pokB q.p.s q.p.H q.p.L q.p.b = false) :
    Calls Tryz.prog 114 #[.agg #[.bool q.p.s, .int .i64 q.p.H.toInt, .int .i64 q.p.L.toInt, .int .i64 q.p.b, .int .i64 q.n]] w fun e w' => e = .returned (.bool false) ∧ Below w.heap.size w w' := by
  have HP := hidP (iPrefixOk_any q.p.s q.p.H q.p.L q.p.b)
  have HWd := hidP (width_any q.p.s q.p.H.toInt q.p.L.toInt)
  rw [hpk] at HP
  go_enter Tryz.func114, Tryz.ntmps114
  go_wp2_with fail
  obtain ⟨x0, x1, x2, x3, x4⟩ := boxPl (q := q) w 68
  have xB := alloc_below w (.cells #[.bool q.p.s, .int .i64 q.p.H.toInt, .int .i64 q.p.L.toInt, .int .i64 q.p.b, .int .i64 q.n] 68)
  have xL := alloc_lt w (.cells #[.bool q.p.s, .int .i64 q.p.H.toInt, .int .i64 q.p.L.toInt, .int .i64 q.p.b, .int .i64 q.n] 68)
  have xS : (w.alloc (.cells #[.bool q.p.s, .int .i64 q.p.H.toInt, .int .i64 q.p.L.toInt, .int .i64 q.p.b, .int .i64 q.n] 68)).heap.size = w.heap.size + 1 := by simp
  generalize w.alloc (.cells #[.bool q.p.s, .int .i64 q.p.H.toInt, .int .i64 q.p.L.toInt, .int .i64 q.p.b, .int .i64 q.n] 68) = W1 at *
  obtain ⟨y0, y1, y2, y3⟩ := box4 (p := q.p) W1 66
  have yB := alloc_below W1 (.cells #[.bool q.p.s, .int .i64 q.p.H.toInt, .int .i64 q.p.L.toInt, .int .i64 q.p.b] 66)
  have yL := alloc_lt W1 (.cells #[.bool q.p.s, .int .i64 q.p.H.toInt, .int .i64 q.p.L.toInt, .int .i64 q.p.b] 66)
  have yS : (W1.alloc (.cells #[.bool q.p.s, .int .i64 q.p.H.toInt, .int .i64 q.p.L.toInt, .int .i64 q.p.b] 66)).heap.size = W1.heap.size + 1 := by simp
  generalize W1.alloc (.cells #[.bool q.p.s, .int .i64 q.p.H.toInt, .int .i64 q.p.L.toInt, .int .i64 q.p.b] 66) = W2 at *
  rw [xS] at y0 y1 y2 y3 yL yS
  have z0 := (yB.cell xL).trans x0
  have z1 := (yB.cell xL).trans x1
  have z2 := (yB.cell xL).trans x2
  have z3 := (yB.cell xL).trans x3
  have z4 := (yB.cell xL).trans x4
  have zL : w.heap.size < W2.heap.size := by omega
  have HXB := hidP (xB.trans (yB.mono xB.size))
  clear x0 x1 x2 x3 x4 xB yB xS yS xL
  have HSx : Hid (∀ x, Below W2.heap.size W2 x → (x.cell? ⟨w.heap.size, 0, none⟩ = some (.bool q.p.s) ∧ x.cell? ⟨w.heap.size, 1, none⟩ = some (.int .i64 q.p.H.toInt) ∧ x.cell? ⟨w.heap.size, 2, none⟩ = some (.int .i64 q.p.L.toInt) ∧ x.cell? ⟨w.heap.size, 3, none⟩ = some (.int .i64 q.p.b) ∧ x.cell? ⟨w.heap.size, 4, none⟩ = some (.int .i64 q.n) ∧ x.cell? ⟨w.heap.size + 1, 0, none⟩ = some (.bool q.p.s) ∧ x.cell? ⟨w.heap.size + 1, 1, none⟩ = some (.int .i64 q.p.H.toInt) ∧ x.cell? ⟨w.heap.size + 1, 2, none⟩ = some (.int .i64 q.p.L.toInt) ∧ x.cell? ⟨w.heap.size + 1, 3, none⟩ = some (.int .i64 q.p.b) ∧ Below W2.heap.size W2 x)) := hidP fun x h =>
    ⟨(h.cell zL).trans z0, (h.cell zL).trans z1, (h.cell zL).trans z2, (h.cell zL).trans z3, (h.cell zL).trans z4, (h.cell yL).trans y0, (h.cell yL).trans y1, (h.cell yL).trans y2, (h.cell yL).trans y3, h⟩
  refine wp_region_held_drew (S := (fun x => x.cell? ⟨w.heap.size, 0, none⟩ = some (.bool q.p.s) ∧ x.cell? ⟨w.heap.size, 1, none⟩ = some (.int .i64 q.p.H.toInt) ∧ x.cell? ⟨w.heap.size, 2, none⟩ = some (.int .i64 q.p.L.toInt) ∧ x.cell? ⟨w.heap.size, 3, none⟩ = some (.int .i64 q.p.b) ∧ x.cell? ⟨w.heap.size, 4, none⟩ = some (.int .i64 q.n) ∧ x.cell? ⟨w.heap.size + 1, 0, none⟩ = some (.bool q.p.s) ∧ x.cell? ⟨w.heap.size + 1, 1, none⟩ = some (.int .i64 q.p.H.toInt) ∧ x.cell? ⟨w.heap.size + 1, 2, none⟩ = some (.int .i64 q.p.L.toInt) ∧ x.cell? ⟨w.heap.size + 1, 3, none⟩ = some (.int .i64 q.p.b) ∧ Below W2.heap.size W2 x)) (by kernel_rfl) ?_ (fun hHeld => ?_)
  · try dsimp only
    exact HSx.out _ ((Below.refl _ _).drew)
  refine tk 0 6 rfl ?_; simp only [pa]
  refine wpAnyH_ready (rs := [1]) (by kernel_rfl) (by simp) ?_
  refine AllReadyH.cons rfl (fun K hK => ?_) AllReadyH.nil
  go_simp
  go_wp2_with (first | (go_at_call 129; refine (HP.out _).mono ?_; rintro e w2 ⟨rfl, hb2⟩; have b2 := (hHeld.2.2.2.2.2.2.2.2.2).trans (hb2.mono (hHeld.2.2.2.2.2.2.2.2.2).size)))
  refine hK.out _ _ ?_ (fun hHeld => ?_)
  · try dsimp only
    exact HSx.out _ b2
  clear hK K
  refine tk 2 8 rfl ?_; simp only [pa]
  refine sk 3 9 rfl ?_; simp only [pa]
  refine sk 4 10 rfl ?_; simp only [pa]
  refine sk 5 11 rfl ?_; simp only [pa]
  refine sk 6 12 rfl ?_; simp only [pa]
  refine sk 7 13 rfl ?_; simp only [pa]
  refine tk 8 14 rfl ?_; simp only [pa]
  refine tk 9 15 rfl ?_; simp only [pa]
  refine sk 10 16 rfl ?_; simp only [pa]
  refine sk 11 17 rfl ?_; simp only [pa]
  refine sk 12 18 rfl ?_; simp only [pa]
  refine sk 13 19 rfl ?_; simp only [pa]
  refine sk 14 20 rfl ?_; simp only [pa]
  refine sk 15 21 rfl ?_; simp only [pa]
  refine sk 16 22 rfl ?_; simp only [pa]
  refine sk 17 23 rfl ?_; simp only [pa]
  refine sk 18 24 rfl ?_; simp only [pa]
  refine sk 19 25 rfl ?_; simp only [pa]
  refine tk 20 26 rfl ?_; simp only [pa]
  refine tk 21 2 rfl ?_; simp only [pa]
  have HE := hidP (hHeld.2.2.2.2.2.2.2.2.2)
  refine wpAnyH_done (by kernel_rfl) ?_ _
  clear hHeld
  go_wp2_with fail
  go_ret
  exact ⟨rfl, HXB.out.trans (HE.out.mono HXB.out.size)⟩

set_option maxRecDepth 10000 in
set_option maxHeartbeats 400000 in
theorem iPoolOk_b (q : Pl) (w : World) (hpk : pokB q.p.s q.p.H q.p.L q.p.b = true) (h1 : decide (q.p.b ≤ q.n) = false) :
    Calls Tryz.prog 114 #[.agg #[.bool q.p.s, .int .i64 q.p.H.toInt, .int .i64 q.p.L.toInt, .int .i64 q.p.b, .int .i64 q.n]] w fun e w' => e = .returned (.bool false) ∧ Below w.heap.size w w' := by
  have HP := hidP (iPrefixOk_any q.p.s q.p.H q.p.L q.p.b)
  have HWd := hidP (width_any q.p.s q.p.H.toInt q.p.L.toInt)
  rw [hpk] at HP
  go_enter Tryz.func114, Tryz.ntmps114
  go_wp2_with fail
  obtain ⟨x0, x1, x2, x3, x4⟩ := boxPl (q := q) w 68
  have xB := alloc_below w (.cells #[.bool q.p.s, .int .i64 q.p.H.toInt, .int .i64 q.p.L.toInt, .int .i64 q.p.b, .int .i64 q.n] 68)
  have xL := alloc_lt w (.cells #[.bool q.p.s, .int .i64 q.p.H.toInt, .int .i64 q.p.L.toInt, .int .i64 q.p.b, .int .i64 q.n] 68)
  have xS : (w.alloc (.cells #[.bool q.p.s, .int .i64 q.p.H.toInt, .int .i64 q.p.L.toInt, .int .i64 q.p.b, .int .i64 q.n] 68)).heap.size = w.heap.size + 1 := by simp
  generalize w.alloc (.cells #[.bool q.p.s, .int .i64 q.p.H.toInt, .int .i64 q.p.L.toInt, .int .i64 q.p.b, .int .i64 q.n] 68) = W1 at *
  obtain ⟨y0, y1, y2, y3⟩ := box4 (p := q.p) W1 66
  have yB := alloc_below W1 (.cells #[.bool q.p.s, .int .i64 q.p.H.toInt, .int .i64 q.p.L.toInt, .int .i64 q.p.b] 66)
  have yL := alloc_lt W1 (.cells #[.bool q.p.s, .int .i64 q.p.H.toInt, .int .i64 q.p.L.toInt, .int .i64 q.p.b] 66)
  have yS : (W1.alloc (.cells #[.bool q.p.s, .int .i64 q.p.H.toInt, .int .i64 q.p.L.toInt, .int .i64 q.p.b] 66)).heap.size = W1.heap.size + 1 := by simp
  generalize W1.alloc (.cells #[.bool q.p.s, .int .i64 q.p.H.toInt, .int .i64 q.p.L.toInt, .int .i64 q.p.b] 66) = W2 at *
  rw [xS] at y0 y1 y2 y3 yL yS
  have z0 := (yB.cell xL).trans x0
  have z1 := (yB.cell xL).trans x1
  have z2 := (yB.cell xL).trans x2
  have z3 := (yB.cell xL).trans x3
  have z4 := (yB.cell xL).trans x4
  have zL : w.heap.size < W2.heap.size := by omega
  have HXB := hidP (xB.trans (yB.mono xB.size))
  clear x0 x1 x2 x3 x4 xB yB xS yS xL
  have HSx : Hid (∀ x, Below W2.heap.size W2 x → (x.cell? ⟨w.heap.size, 0, none⟩ = some (.bool q.p.s) ∧ x.cell? ⟨w.heap.size, 1, none⟩ = some (.int .i64 q.p.H.toInt) ∧ x.cell? ⟨w.heap.size, 2, none⟩ = some (.int .i64 q.p.L.toInt) ∧ x.cell? ⟨w.heap.size, 3, none⟩ = some (.int .i64 q.p.b) ∧ x.cell? ⟨w.heap.size, 4, none⟩ = some (.int .i64 q.n) ∧ x.cell? ⟨w.heap.size + 1, 0, none⟩ = some (.bool q.p.s) ∧ x.cell? ⟨w.heap.size + 1, 1, none⟩ = some (.int .i64 q.p.H.toInt) ∧ x.cell? ⟨w.heap.size + 1, 2, none⟩ = some (.int .i64 q.p.L.toInt) ∧ x.cell? ⟨w.heap.size + 1, 3, none⟩ = some (.int .i64 q.p.b) ∧ Below W2.heap.size W2 x)) := hidP fun x h =>
    ⟨(h.cell zL).trans z0, (h.cell zL).trans z1, (h.cell zL).trans z2, (h.cell zL).trans z3, (h.cell zL).trans z4, (h.cell yL).trans y0, (h.cell yL).trans y1, (h.cell yL).trans y2, (h.cell yL).trans y3, h⟩
  refine wp_region_held_drew (S := (fun x => x.cell? ⟨w.heap.size, 0, none⟩ = some (.bool q.p.s) ∧ x.cell? ⟨w.heap.size, 1, none⟩ = some (.int .i64 q.p.H.toInt) ∧ x.cell? ⟨w.heap.size, 2, none⟩ = some (.int .i64 q.p.L.toInt) ∧ x.cell? ⟨w.heap.size, 3, none⟩ = some (.int .i64 q.p.b) ∧ x.cell? ⟨w.heap.size, 4, none⟩ = some (.int .i64 q.n) ∧ x.cell? ⟨w.heap.size + 1, 0, none⟩ = some (.bool q.p.s) ∧ x.cell? ⟨w.heap.size + 1, 1, none⟩ = some (.int .i64 q.p.H.toInt) ∧ x.cell? ⟨w.heap.size + 1, 2, none⟩ = some (.int .i64 q.p.L.toInt) ∧ x.cell? ⟨w.heap.size + 1, 3, none⟩ = some (.int .i64 q.p.b) ∧ Below W2.heap.size W2 x)) (by kernel_rfl) ?_ (fun hHeld => ?_)
  · try dsimp only
    exact HSx.out _ ((Below.refl _ _).drew)
  refine tk 0 6 rfl ?_; simp only [pa]
  refine wpAnyH_ready (rs := [1]) (by kernel_rfl) (by simp) ?_
  refine AllReadyH.cons rfl (fun K hK => ?_) AllReadyH.nil
  go_simp
  go_wp2_with (first | (go_at_call 129; refine (HP.out _).mono ?_; rintro e w2 ⟨rfl, hb2⟩; have b2 := (hHeld.2.2.2.2.2.2.2.2.2).trans (hb2.mono (hHeld.2.2.2.2.2.2.2.2.2).size)))
  refine hK.out _ _ ?_ (fun hHeld => ?_)
  · try dsimp only
    exact HSx.out _ b2
  clear hK K
  refine tk 2 8 rfl ?_; simp only [pa]
  refine tk 3 9 rfl ?_; simp only [pa]
  refine tk 4 10 rfl ?_; simp only [pa]
  refine tk 5 11 rfl ?_; simp only [pa]
  refine tk 6 12 rfl ?_; simp only [pa]
  refine tk 7 13 rfl ?_; simp only [pa]
  refine tk 8 14 rfl ?_; simp only [pa]
  refine tk 9 15 rfl ?_; simp only [pa]
  refine sk 10 16 rfl ?_; simp only [pa]
  refine sk 11 17 rfl ?_; simp only [pa]
  refine sk 12 18 rfl ?_; simp only [pa]
  refine sk 13 19 rfl ?_; simp only [pa]
  refine sk 14 20 rfl ?_; simp only [pa]
  refine sk 15 21 rfl ?_; simp only [pa]
  refine sk 16 22 rfl ?_; simp only [pa]
  refine sk 17 23 rfl ?_; simp only [pa]
  refine sk 18 24 rfl ?_; simp only [pa]
  refine sk 19 25 rfl ?_; simp only [pa]
  refine tk 20 26 rfl ?_; simp only [pa]
  refine tk 21 2 rfl ?_; simp only [pa]
  have HE := hidP (hHeld.2.2.2.2.2.2.2.2.2)
  refine wpAnyH_done (by kernel_rfl) ?_ _
  clear hHeld
  go_wp2_with fail
  go_ret
  exact ⟨rfl, HXB.out.trans (HE.out.mono HXB.out.size)⟩

set_option maxRecDepth 10000 in
set_option maxHeartbeats 400000 in
theorem iPoolOk_c (q : Pl) (w : World) (hpk : pokB q.p.s q.p.H q.p.L q.p.b = true) (h1 : decide (q.p.b ≤ q.n) = true) (hw : IntKind.i64.wrap (q.p.b + 20) = q.p.b + 20) (hm : q.p.b + 20 < (wd q.p.s : Int)) :
    Calls Tryz.prog 114 #[.agg #[.bool q.p.s, .int .i64 q.p.H.toInt, .int .i64 q.p.L.toInt, .int .i64 q.p.b, .int .i64 q.n]] w fun e w' => e = .returned (.bool (decide (q.n ≤ q.p.b + 20))) ∧ Below w.heap.size w w' := by
  have HP := hidP (iPrefixOk_any q.p.s q.p.H q.p.L q.p.b)
  have HWd := hidP (width_any q.p.s q.p.H.toInt q.p.L.toInt)
  rw [hpk] at HP
  go_enter Tryz.func114, Tryz.ntmps114
  go_wp2_with fail
  obtain ⟨x0, x1, x2, x3, x4⟩ := boxPl (q := q) w 68
  have xB := alloc_below w (.cells #[.bool q.p.s, .int .i64 q.p.H.toInt, .int .i64 q.p.L.toInt, .int .i64 q.p.b, .int .i64 q.n] 68)
  have xL := alloc_lt w (.cells #[.bool q.p.s, .int .i64 q.p.H.toInt, .int .i64 q.p.L.toInt, .int .i64 q.p.b, .int .i64 q.n] 68)
  have xS : (w.alloc (.cells #[.bool q.p.s, .int .i64 q.p.H.toInt, .int .i64 q.p.L.toInt, .int .i64 q.p.b, .int .i64 q.n] 68)).heap.size = w.heap.size + 1 := by simp
  generalize w.alloc (.cells #[.bool q.p.s, .int .i64 q.p.H.toInt, .int .i64 q.p.L.toInt, .int .i64 q.p.b, .int .i64 q.n] 68) = W1 at *
  obtain ⟨y0, y1, y2, y3⟩ := box4 (p := q.p) W1 66
  have yB := alloc_below W1 (.cells #[.bool q.p.s, .int .i64 q.p.H.toInt, .int .i64 q.p.L.toInt, .int .i64 q.p.b] 66)
  have yL := alloc_lt W1 (.cells #[.bool q.p.s, .int .i64 q.p.H.toInt, .int .i64 q.p.L.toInt, .int .i64 q.p.b] 66)
  have yS : (W1.alloc (.cells #[.bool q.p.s, .int .i64 q.p.H.toInt, .int .i64 q.p.L.toInt, .int .i64 q.p.b] 66)).heap.size = W1.heap.size + 1 := by simp
  generalize W1.alloc (.cells #[.bool q.p.s, .int .i64 q.p.H.toInt, .int .i64 q.p.L.toInt, .int .i64 q.p.b] 66) = W2 at *
  rw [xS] at y0 y1 y2 y3 yL yS
  have z0 := (yB.cell xL).trans x0
  have z1 := (yB.cell xL).trans x1
  have z2 := (yB.cell xL).trans x2
  have z3 := (yB.cell xL).trans x3
  have z4 := (yB.cell xL).trans x4
  have zL : w.heap.size < W2.heap.size := by omega
  have HXB := hidP (xB.trans (yB.mono xB.size))
  clear x0 x1 x2 x3 x4 xB yB xS yS xL
  have HSx : Hid (∀ x, Below W2.heap.size W2 x → (x.cell? ⟨w.heap.size, 0, none⟩ = some (.bool q.p.s) ∧ x.cell? ⟨w.heap.size, 1, none⟩ = some (.int .i64 q.p.H.toInt) ∧ x.cell? ⟨w.heap.size, 2, none⟩ = some (.int .i64 q.p.L.toInt) ∧ x.cell? ⟨w.heap.size, 3, none⟩ = some (.int .i64 q.p.b) ∧ x.cell? ⟨w.heap.size, 4, none⟩ = some (.int .i64 q.n) ∧ x.cell? ⟨w.heap.size + 1, 0, none⟩ = some (.bool q.p.s) ∧ x.cell? ⟨w.heap.size + 1, 1, none⟩ = some (.int .i64 q.p.H.toInt) ∧ x.cell? ⟨w.heap.size + 1, 2, none⟩ = some (.int .i64 q.p.L.toInt) ∧ x.cell? ⟨w.heap.size + 1, 3, none⟩ = some (.int .i64 q.p.b) ∧ Below W2.heap.size W2 x)) := hidP fun x h =>
    ⟨(h.cell zL).trans z0, (h.cell zL).trans z1, (h.cell zL).trans z2, (h.cell zL).trans z3, (h.cell zL).trans z4, (h.cell yL).trans y0, (h.cell yL).trans y1, (h.cell yL).trans y2, (h.cell yL).trans y3, h⟩
  refine wp_region_held_drew (S := (fun x => x.cell? ⟨w.heap.size, 0, none⟩ = some (.bool q.p.s) ∧ x.cell? ⟨w.heap.size, 1, none⟩ = some (.int .i64 q.p.H.toInt) ∧ x.cell? ⟨w.heap.size, 2, none⟩ = some (.int .i64 q.p.L.toInt) ∧ x.cell? ⟨w.heap.size, 3, none⟩ = some (.int .i64 q.p.b) ∧ x.cell? ⟨w.heap.size, 4, none⟩ = some (.int .i64 q.n) ∧ x.cell? ⟨w.heap.size + 1, 0, none⟩ = some (.bool q.p.s) ∧ x.cell? ⟨w.heap.size + 1, 1, none⟩ = some (.int .i64 q.p.H.toInt) ∧ x.cell? ⟨w.heap.size + 1, 2, none⟩ = some (.int .i64 q.p.L.toInt) ∧ x.cell? ⟨w.heap.size + 1, 3, none⟩ = some (.int .i64 q.p.b) ∧ Below W2.heap.size W2 x)) (by kernel_rfl) ?_ (fun hHeld => ?_)
  · try dsimp only
    exact HSx.out _ ((Below.refl _ _).drew)
  refine tk 0 6 rfl ?_; simp only [pa]
  refine wpAnyH_ready (rs := [1]) (by kernel_rfl) (by simp) ?_
  refine AllReadyH.cons rfl (fun K hK => ?_) AllReadyH.nil
  go_simp
  go_wp2_with (first | (go_at_call 129; refine (HP.out _).mono ?_; rintro e w2 ⟨rfl, hb2⟩; have b2 := (hHeld.2.2.2.2.2.2.2.2.2).trans (hb2.mono (hHeld.2.2.2.2.2.2.2.2.2).size)))
  refine hK.out _ _ ?_ (fun hHeld => ?_)
  · try dsimp only
    exact HSx.out _ b2
  clear hK K
  refine tk 2 8 rfl ?_; simp only [pa]
  refine tk 3 9 rfl ?_; simp only [pa]
  refine tk 4 10 rfl ?_; simp only [pa]
  refine tk 5 11 rfl ?_; simp only [pa]
  refine tk 6 12 rfl ?_; simp only [pa]
  refine tk 7 13 rfl ?_; simp only [pa]
  refine tk 8 14 rfl ?_; simp only [pa]
  refine tk 9 15 rfl ?_; simp only [pa]
  refine tk 10 16 rfl ?_; simp only [pa]
  refine tk 11 17 rfl ?_; simp only [pa]
  refine tk 12 18 rfl ?_; simp only [pa]
  refine tk 13 19 rfl ?_; simp only [pa]
  refine tk 15 21 rfl ?_; simp only [pa]
  refine tk 16 22 rfl ?_; simp only [pa]
  refine tk 17 23 rfl ?_; simp only [pa]
  refine wpAnyH_ready (rs := [14]) (by kernel_rfl) (by simp) ?_
  refine AllReadyH.cons rfl (fun K hK => ?_) AllReadyH.nil
  go_simp
  go_wp2_with (first | (go_at_call 130; refine (HWd.out _).mono ?_; rintro e w3 ⟨rfl, hb3⟩; have b3 := (hHeld.2.2.2.2.2.2.2.2.2).trans (hb3.mono (hHeld.2.2.2.2.2.2.2.2.2).size)))
  refine hK.out _ _ ?_ (fun hHeld => ?_)
  · try dsimp only
    exact HSx.out _ b3
  clear hK K
  refine tk 18 24 rfl ?_; simp only [pa]
  refine tk 19 25 rfl ?_; simp only [pa]
  refine tk 20 26 rfl ?_; simp only [pa]
  refine tk 21 2 rfl ?_; simp only [pa]
  have HE := hidP (hHeld.2.2.2.2.2.2.2.2.2)
  refine wpAnyH_done (by kernel_rfl) ?_ _
  clear hHeld
  go_wp2_with fail
  go_ret
  exact ⟨rfl, HXB.out.trans (HE.out.mono HXB.out.size)⟩

set_option maxRecDepth 10000 in
set_option maxHeartbeats 400000 in
theorem iPoolOk_d (q : Pl) (w : World) (hpk : pokB q.p.s q.p.H q.p.L q.p.b = true) (h1 : decide (q.p.b ≤ q.n) = true) (hw : IntKind.i64.wrap (q.p.b + 20) = q.p.b + 20) (hm : ¬ q.p.b + 20 < (wd q.p.s : Int)) :
    Calls Tryz.prog 114 #[.agg #[.bool q.p.s, .int .i64 q.p.H.toInt, .int .i64 q.p.L.toInt, .int .i64 q.p.b, .int .i64 q.n]] w fun e w' => e = .returned (.bool (decide (q.n ≤ (wd q.p.s : Int)))) ∧ Below w.heap.size w w' := by
  have HP := hidP (iPrefixOk_any q.p.s q.p.H q.p.L q.p.b)
  have HWd := hidP (width_any q.p.s q.p.H.toInt q.p.L.toInt)
  rw [hpk] at HP
  go_enter Tryz.func114, Tryz.ntmps114
  go_wp2_with fail
  obtain ⟨x0, x1, x2, x3, x4⟩ := boxPl (q := q) w 68
  have xB := alloc_below w (.cells #[.bool q.p.s, .int .i64 q.p.H.toInt, .int .i64 q.p.L.toInt, .int .i64 q.p.b, .int .i64 q.n] 68)
  have xL := alloc_lt w (.cells #[.bool q.p.s, .int .i64 q.p.H.toInt, .int .i64 q.p.L.toInt, .int .i64 q.p.b, .int .i64 q.n] 68)
  have xS : (w.alloc (.cells #[.bool q.p.s, .int .i64 q.p.H.toInt, .int .i64 q.p.L.toInt, .int .i64 q.p.b, .int .i64 q.n] 68)).heap.size = w.heap.size + 1 := by simp
  generalize w.alloc (.cells #[.bool q.p.s, .int .i64 q.p.H.toInt, .int .i64 q.p.L.toInt, .int .i64 q.p.b, .int .i64 q.n] 68) = W1 at *
  obtain ⟨y0, y1, y2, y3⟩ := box4 (p := q.p) W1 66
  have yB := alloc_below W1 (.cells #[.bool q.p.s, .int .i64 q.p.H.toInt, .int .i64 q.p.L.toInt, .int .i64 q.p.b] 66)
  have yL := alloc_lt W1 (.cells #[.bool q.p.s, .int .i64 q.p.H.toInt, .int .i64 q.p.L.toInt, .int .i64 q.p.b] 66)
  have yS : (W1.alloc (.cells #[.bool q.p.s, .int .i64 q.p.H.toInt, .int .i64 q.p.L.toInt, .int .i64 q.p.b] 66)).heap.size = W1.heap.size + 1 := by simp
  generalize W1.alloc (.cells #[.bool q.p.s, .int .i64 q.p.H.toInt, .int .i64 q.p.L.toInt, .int .i64 q.p.b] 66) = W2 at *
  rw [xS] at y0 y1 y2 y3 yL yS
  have z0 := (yB.cell xL).trans x0
  have z1 := (yB.cell xL).trans x1
  have z2 := (yB.cell xL).trans x2
  have z3 := (yB.cell xL).trans x3
  have z4 := (yB.cell xL).trans x4
  have zL : w.heap.size < W2.heap.size := by omega
  have HXB := hidP (xB.trans (yB.mono xB.size))
  clear x0 x1 x2 x3 x4 xB yB xS yS xL
  have HSx : Hid (∀ x, Below W2.heap.size W2 x → (x.cell? ⟨w.heap.size, 0, none⟩ = some (.bool q.p.s) ∧ x.cell? ⟨w.heap.size, 1, none⟩ = some (.int .i64 q.p.H.toInt) ∧ x.cell? ⟨w.heap.size, 2, none⟩ = some (.int .i64 q.p.L.toInt) ∧ x.cell? ⟨w.heap.size, 3, none⟩ = some (.int .i64 q.p.b) ∧ x.cell? ⟨w.heap.size, 4, none⟩ = some (.int .i64 q.n) ∧ x.cell? ⟨w.heap.size + 1, 0, none⟩ = some (.bool q.p.s) ∧ x.cell? ⟨w.heap.size + 1, 1, none⟩ = some (.int .i64 q.p.H.toInt) ∧ x.cell? ⟨w.heap.size + 1, 2, none⟩ = some (.int .i64 q.p.L.toInt) ∧ x.cell? ⟨w.heap.size + 1, 3, none⟩ = some (.int .i64 q.p.b) ∧ Below W2.heap.size W2 x)) := hidP fun x h =>
    ⟨(h.cell zL).trans z0, (h.cell zL).trans z1, (h.cell zL).trans z2, (h.cell zL).trans z3, (h.cell zL).trans z4, (h.cell yL).trans y0, (h.cell yL).trans y1, (h.cell yL).trans y2, (h.cell yL).trans y3, h⟩
  refine wp_region_held_drew (S := (fun x => x.cell? ⟨w.heap.size, 0, none⟩ = some (.bool q.p.s) ∧ x.cell? ⟨w.heap.size, 1, none⟩ = some (.int .i64 q.p.H.toInt) ∧ x.cell? ⟨w.heap.size, 2, none⟩ = some (.int .i64 q.p.L.toInt) ∧ x.cell? ⟨w.heap.size, 3, none⟩ = some (.int .i64 q.p.b) ∧ x.cell? ⟨w.heap.size, 4, none⟩ = some (.int .i64 q.n) ∧ x.cell? ⟨w.heap.size + 1, 0, none⟩ = some (.bool q.p.s) ∧ x.cell? ⟨w.heap.size + 1, 1, none⟩ = some (.int .i64 q.p.H.toInt) ∧ x.cell? ⟨w.heap.size + 1, 2, none⟩ = some (.int .i64 q.p.L.toInt) ∧ x.cell? ⟨w.heap.size + 1, 3, none⟩ = some (.int .i64 q.p.b) ∧ Below W2.heap.size W2 x)) (by kernel_rfl) ?_ (fun hHeld => ?_)
  · try dsimp only
    exact HSx.out _ ((Below.refl _ _).drew)
  refine tk 0 6 rfl ?_; simp only [pa]
  refine wpAnyH_ready (rs := [1]) (by kernel_rfl) (by simp) ?_
  refine AllReadyH.cons rfl (fun K hK => ?_) AllReadyH.nil
  go_simp
  go_wp2_with (first | (go_at_call 129; refine (HP.out _).mono ?_; rintro e w2 ⟨rfl, hb2⟩; have b2 := (hHeld.2.2.2.2.2.2.2.2.2).trans (hb2.mono (hHeld.2.2.2.2.2.2.2.2.2).size)))
  refine hK.out _ _ ?_ (fun hHeld => ?_)
  · try dsimp only
    exact HSx.out _ b2
  clear hK K
  refine tk 2 8 rfl ?_; simp only [pa]
  refine tk 3 9 rfl ?_; simp only [pa]
  refine tk 4 10 rfl ?_; simp only [pa]
  refine tk 5 11 rfl ?_; simp only [pa]
  refine tk 6 12 rfl ?_; simp only [pa]
  refine tk 7 13 rfl ?_; simp only [pa]
  refine tk 8 14 rfl ?_; simp only [pa]
  refine tk 9 15 rfl ?_; simp only [pa]
  refine tk 10 16 rfl ?_; simp only [pa]
  refine tk 11 17 rfl ?_; simp only [pa]
  refine tk 12 18 rfl ?_; simp only [pa]
  refine tk 13 19 rfl ?_; simp only [pa]
  refine tk 15 21 rfl ?_; simp only [pa]
  refine tk 16 22 rfl ?_; simp only [pa]
  refine tk 17 23 rfl ?_; simp only [pa]
  refine wpAnyH_ready (rs := [14]) (by kernel_rfl) (by simp) ?_
  refine AllReadyH.cons rfl (fun K hK => ?_) AllReadyH.nil
  go_simp
  go_wp2_with (first | (go_at_call 130; refine (HWd.out _).mono ?_; rintro e w3 ⟨rfl, hb3⟩; have b3 := (hHeld.2.2.2.2.2.2.2.2.2).trans (hb3.mono (hHeld.2.2.2.2.2.2.2.2.2).size)))
  refine hK.out _ _ ?_ (fun hHeld => ?_)
  · try dsimp only
    exact HSx.out _ b3
  clear hK K
  refine tk 18 24 rfl ?_; simp only [pa]
  refine tk 19 25 rfl ?_; simp only [pa]
  refine tk 20 26 rfl ?_; simp only [pa]
  refine tk 21 2 rfl ?_; simp only [pa]
  have HE := hidP (hHeld.2.2.2.2.2.2.2.2.2)
  refine wpAnyH_done (by kernel_rfl) ?_ _
  clear hHeld
  go_wp2_with fail
  go_ret
  exact ⟨rfl, HXB.out.trans (HE.out.mono HXB.out.size)⟩

theorem iPoolOk_any (q : Pl) (w : World) :
    Calls Tryz.prog 114 #[.agg #[.bool q.p.s, .int .i64 q.p.H.toInt, .int .i64 q.p.L.toInt, .int .i64 q.p.b, .int .i64 q.n]] w fun e w' => e = .returned (.bool (okPl q)) ∧ Below w.heap.size w w' := by
  unfold okPl Pf.pk
  cases hpk : pokB q.p.s q.p.H q.p.L q.p.b
  · exact iPoolOk_a q w hpk
  · cases h1 : decide (q.p.b ≤ q.n)
    · exact iPoolOk_b q w hpk h1
    · have hb := (pokB_parts hpk).2.1
      have hwd := wd_le' q.p.s
      have hw : IntKind.i64.wrap (q.p.b + 20) = q.p.b + 20 := by rw [IntKind.wrap_i64]; omega
      by_cases hm : q.p.b + 20 < (wd q.p.s : Int)
      · have := iPoolOk_c q w hpk h1 hw hm
        rw [show (true && (true && (decide (q.n ≤ (wd q.p.s : Int)) && decide (q.n ≤ q.p.b + 20)))) = decide (q.n ≤ q.p.b + 20) by
          rw [Bool.true_and, Bool.true_and, Bool.eq_iff_iff, Bool.and_eq_true, decide_eq_true_eq, decide_eq_true_eq]; omega]
        exact this
      · have := iPoolOk_d q w hpk h1 hw hm
        rw [show (true && (true && (decide (q.n ≤ (wd q.p.s : Int)) && decide (q.n ≤ q.p.b + 20)))) = decide (q.n ≤ (wd q.p.s : Int)) by
          rw [Bool.true_and, Bool.true_and, Bool.eq_iff_iff, Bool.and_eq_true, decide_eq_true_eq, decide_eq_true_eq]; omega]
        exact this

set_option maxRecDepth 10000 in
set_option maxHeartbeats 400000 in
theorem sPoolOk_a (q : Pl) (w : World) (hpk : pokB q.p.s q.p.H q.p.L q.p.b = false) :
    Calls Tryz.prog 81 #[.agg #[.bool q.p.s, .int .i64 q.p.H.toInt, .int .i64 q.p.L.toInt, .int .i64 q.p.b, .int .i64 q.n]] w fun e w' => e = .returned (.bool false) ∧ Below w.heap.size w w' := by
  have HP := hidP (sPrefixOk_any q.p.s q.p.H q.p.L q.p.b)
  have HWd := hidP (l2Width_any q.p.s q.p.H.toInt q.p.L.toInt)
  have HIn := hidP (l1In_any q.n q.p.b (wd q.p.s))
  rw [hpk] at HP
  go_enter Tryz.func81, Tryz.ntmps81
  go_wp2_with fail
  obtain ⟨x0, x1, x2, x3, x4⟩ := boxPl (q := q) w 68
  have xB := alloc_below w (.cells #[.bool q.p.s, .int .i64 q.p.H.toInt, .int .i64 q.p.L.toInt, .int .i64 q.p.b, .int .i64 q.n] 68)
  have xL := alloc_lt w (.cells #[.bool q.p.s, .int .i64 q.p.H.toInt, .int .i64 q.p.L.toInt, .int .i64 q.p.b, .int .i64 q.n] 68)
  have xS : (w.alloc (.cells #[.bool q.p.s, .int .i64 q.p.H.toInt, .int .i64 q.p.L.toInt, .int .i64 q.p.b, .int .i64 q.n] 68)).heap.size = w.heap.size + 1 := by simp
  generalize w.alloc (.cells #[.bool q.p.s, .int .i64 q.p.H.toInt, .int .i64 q.p.L.toInt, .int .i64 q.p.b, .int .i64 q.n] 68) = W1 at *
  have HXB := hidP xB
  clear xB xS
  have HSx : Hid (∀ x, Below W1.heap.size W1 x → (x.cell? ⟨w.heap.size, 0, none⟩ = some (.bool q.p.s) ∧ x.cell? ⟨w.heap.size, 1, none⟩ = some (.int .i64 q.p.H.toInt) ∧ x.cell? ⟨w.heap.size, 2, none⟩ = some (.int .i64 q.p.L.toInt) ∧ x.cell? ⟨w.heap.size, 3, none⟩ = some (.int .i64 q.p.b) ∧ x.cell? ⟨w.heap.size, 4, none⟩ = some (.int .i64 q.n) ∧ Below W1.heap.size W1 x)) := hidP fun x h =>
    ⟨(h.cell xL).trans x0, (h.cell xL).trans x1, (h.cell xL).trans x2, (h.cell xL).trans x3, (h.cell xL).trans x4, h⟩
  refine wp_region_held_drew (S := (fun x => x.cell? ⟨w.heap.size, 0, none⟩ = some (.bool q.p.s) ∧ x.cell? ⟨w.heap.size, 1, none⟩ = some (.int .i64 q.p.H.toInt) ∧ x.cell? ⟨w.heap.size, 2, none⟩ = some (.int .i64 q.p.L.toInt) ∧ x.cell? ⟨w.heap.size, 3, none⟩ = some (.int .i64 q.p.b) ∧ x.cell? ⟨w.heap.size, 4, none⟩ = some (.int .i64 q.n) ∧ Below W1.heap.size W1 x)) (by kernel_rfl) ?_ (fun hHeld => ?_)
  · try dsimp only
    exact HSx.out _ ((Below.refl _ _).drew)
  refine tk 0 3 rfl ?_; simp only [pa]
  refine tk 1 4 rfl ?_; simp only [pa]
  refine wpAnyH_ready (rs := [2]) (by kernel_rfl) (by simp) ?_
  refine AllReadyH.cons rfl (fun K hK => ?_) AllReadyH.nil
  go_simp
  go_wp2_with (first | (go_at_call 85; refine (HP.out _).mono ?_; rintro e w2 ⟨rfl, hb2⟩; have b2 := (hHeld.2.2.2.2.2).trans (hb2.mono (hHeld.2.2.2.2.2).size)))
  refine hK.out _ _ ?_ (fun hHeld => ?_)
  · try dsimp only
    exact HSx.out _ b2
  clear hK K
  refine tk 3 6 rfl ?_; simp only [pa]
  refine sk 4 7 rfl ?_; simp only [pa]
  refine sk 5 8 rfl ?_; simp only [pa]
  refine sk 6 9 rfl ?_; simp only [pa]
  refine sk 7 10 rfl ?_; simp only [pa]
  refine sk 8 11 rfl ?_; simp only [pa]
  refine sk 9 12 rfl ?_; simp only [pa]
  refine sk 10 13 rfl ?_; simp only [pa]
  refine sk 11 14 rfl ?_; simp only [pa]
  refine sk 12 15 rfl ?_; simp only [pa]
  refine sk 13 16 rfl ?_; simp only [pa]
  refine tk 14 17 rfl ?_; simp only [pa]
  refine tk 15 18 rfl ?_; simp only [pa]
  refine sk 16 19 rfl ?_; simp only [pa]
  refine sk 17 20 rfl ?_; simp only [pa]
  refine sk 18 21 rfl ?_; simp only [pa]
  refine sk 19 22 rfl ?_; simp only [pa]
  refine sk 20 23 rfl ?_; simp only [pa]
  refine sk 21 24 rfl ?_; simp only [pa]
  refine sk 22 25 rfl ?_; simp only [pa]
  refine tk 23 26 rfl ?_; simp only [pa]
  refine tk 24 2 rfl ?_; simp only [pa]
  have HE := hidP (hHeld.2.2.2.2.2)
  refine wpAnyH_done (by kernel_rfl) ?_ _
  clear hHeld
  go_wp2_with fail
  go_ret
  exact ⟨rfl, HXB.out.trans (HE.out.mono HXB.out.size)⟩

set_option maxRecDepth 10000 in
set_option maxHeartbeats 400000 in
theorem sPoolOk_b (q : Pl) (w : World) (hpk : pokB q.p.s q.p.H q.p.L q.p.b = true) (h1 : decide (q.p.b ≤ q.n ∧ q.n ≤ (wd q.p.s : Int)) = false) :
    Calls Tryz.prog 81 #[.agg #[.bool q.p.s, .int .i64 q.p.H.toInt, .int .i64 q.p.L.toInt, .int .i64 q.p.b, .int .i64 q.n]] w fun e w' => e = .returned (.bool false) ∧ Below w.heap.size w w' := by
  have HP := hidP (sPrefixOk_any q.p.s q.p.H q.p.L q.p.b)
  have HWd := hidP (l2Width_any q.p.s q.p.H.toInt q.p.L.toInt)
  have HIn := hidP (l1In_any q.n q.p.b (wd q.p.s))
  rw [hpk] at HP
  rw [h1] at HIn
  go_enter Tryz.func81, Tryz.ntmps81
  go_wp2_with fail
  obtain ⟨x0, x1, x2, x3, x4⟩ := boxPl (q := q) w 68
  have xB := alloc_below w (.cells #[.bool q.p.s, .int .i64 q.p.H.toInt, .int .i64 q.p.L.toInt, .int .i64 q.p.b, .int .i64 q.n] 68)
  have xL := alloc_lt w (.cells #[.bool q.p.s, .int .i64 q.p.H.toInt, .int .i64 q.p.L.toInt, .int .i64 q.p.b, .int .i64 q.n] 68)
  have xS : (w.alloc (.cells #[.bool q.p.s, .int .i64 q.p.H.toInt, .int .i64 q.p.L.toInt, .int .i64 q.p.b, .int .i64 q.n] 68)).heap.size = w.heap.size + 1 := by simp
  generalize w.alloc (.cells #[.bool q.p.s, .int .i64 q.p.H.toInt, .int .i64 q.p.L.toInt, .int .i64 q.p.b, .int .i64 q.n] 68) = W1 at *
  have HXB := hidP xB
  clear xB xS
  have HSx : Hid (∀ x, Below W1.heap.size W1 x → (x.cell? ⟨w.heap.size, 0, none⟩ = some (.bool q.p.s) ∧ x.cell? ⟨w.heap.size, 1, none⟩ = some (.int .i64 q.p.H.toInt) ∧ x.cell? ⟨w.heap.size, 2, none⟩ = some (.int .i64 q.p.L.toInt) ∧ x.cell? ⟨w.heap.size, 3, none⟩ = some (.int .i64 q.p.b) ∧ x.cell? ⟨w.heap.size, 4, none⟩ = some (.int .i64 q.n) ∧ Below W1.heap.size W1 x)) := hidP fun x h =>
    ⟨(h.cell xL).trans x0, (h.cell xL).trans x1, (h.cell xL).trans x2, (h.cell xL).trans x3, (h.cell xL).trans x4, h⟩
  refine wp_region_held_drew (S := (fun x => x.cell? ⟨w.heap.size, 0, none⟩ = some (.bool q.p.s) ∧ x.cell? ⟨w.heap.size, 1, none⟩ = some (.int .i64 q.p.H.toInt) ∧ x.cell? ⟨w.heap.size, 2, none⟩ = some (.int .i64 q.p.L.toInt) ∧ x.cell? ⟨w.heap.size, 3, none⟩ = some (.int .i64 q.p.b) ∧ x.cell? ⟨w.heap.size, 4, none⟩ = some (.int .i64 q.n) ∧ Below W1.heap.size W1 x)) (by kernel_rfl) ?_ (fun hHeld => ?_)
  · try dsimp only
    exact HSx.out _ ((Below.refl _ _).drew)
  refine tk 0 3 rfl ?_; simp only [pa]
  refine tk 1 4 rfl ?_; simp only [pa]
  refine wpAnyH_ready (rs := [2]) (by kernel_rfl) (by simp) ?_
  refine AllReadyH.cons rfl (fun K hK => ?_) AllReadyH.nil
  go_simp
  go_wp2_with (first | (go_at_call 85; refine (HP.out _).mono ?_; rintro e w2 ⟨rfl, hb2⟩; have b2 := (hHeld.2.2.2.2.2).trans (hb2.mono (hHeld.2.2.2.2.2).size)))
  refine hK.out _ _ ?_ (fun hHeld => ?_)
  · try dsimp only
    exact HSx.out _ b2
  clear hK K
  refine tk 3 6 rfl ?_; simp only [pa]
  refine tk 4 7 rfl ?_; simp only [pa]
  refine tk 5 8 rfl ?_; simp only [pa]
  refine tk 6 9 rfl ?_; simp only [pa]
  refine tk 7 10 rfl ?_; simp only [pa]
  refine tk 8 11 rfl ?_; simp only [pa]
  refine tk 9 12 rfl ?_; simp only [pa]
  refine tk 10 13 rfl ?_; simp only [pa]
  refine tk 11 14 rfl ?_; simp only [pa]
  refine wpAnyH_ready (rs := [12]) (by kernel_rfl) (by simp) ?_
  refine AllReadyH.cons rfl (fun K hK => ?_) AllReadyH.nil
  go_simp
  go_wp2_with (first | (go_at_call 107; refine (HWd.out _).mono ?_; rintro e w3 ⟨rfl, hb3⟩; have b3 := (hHeld.2.2.2.2.2).trans (hb3.mono (hHeld.2.2.2.2.2).size)))
  refine hK.out _ _ ?_ (fun hHeld => ?_)
  · try dsimp only
    exact HSx.out _ b3
  clear hK K
  refine wpAnyH_ready (rs := [13]) (by kernel_rfl) (by simp) ?_
  refine AllReadyH.cons rfl (fun K hK => ?_) AllReadyH.nil
  go_simp
  go_wp2_with (first | (go_at_call 87; refine (HIn.out _).mono ?_; rintro e w' ⟨rfl, rfl⟩))
  refine hK.out _ _ ?_ (fun hHeld => ?_)
  · try dsimp only
    exact HSx.out _ (hHeld.2.2.2.2.2)
  clear hK K
  refine tk 14 17 rfl ?_; simp only [pa]
  refine tk 15 18 rfl ?_; simp only [pa]
  refine sk 16 19 rfl ?_; simp only [pa]
  refine sk 17 20 rfl ?_; simp only [pa]
  refine sk 18 21 rfl ?_; simp only [pa]
  refine sk 19 22 rfl ?_; simp only [pa]
  refine sk 20 23 rfl ?_; simp only [pa]
  refine sk 21 24 rfl ?_; simp only [pa]
  refine sk 22 25 rfl ?_; simp only [pa]
  refine tk 23 26 rfl ?_; simp only [pa]
  refine tk 24 2 rfl ?_; simp only [pa]
  have HE := hidP (hHeld.2.2.2.2.2)
  refine wpAnyH_done (by kernel_rfl) ?_ _
  clear hHeld
  go_wp2_with fail
  go_ret
  exact ⟨rfl, HXB.out.trans (HE.out.mono HXB.out.size)⟩

set_option maxRecDepth 10000 in
set_option maxHeartbeats 400000 in
theorem sPoolOk_c (q : Pl) (w : World) (hpk : pokB q.p.s q.p.H q.p.L q.p.b = true) (hw : IntKind.i64.wrap (q.p.b + 20) = q.p.b + 20) (h1 : decide (q.p.b ≤ q.n ∧ q.n ≤ (wd q.p.s : Int)) = true) :
    Calls Tryz.prog 81 #[.agg #[.bool q.p.s, .int .i64 q.p.H.toInt, .int .i64 q.p.L.toInt, .int .i64 q.p.b, .int .i64 q.n]] w fun e w' => e = .returned (.bool (decide (q.n ≤ q.p.b + 20))) ∧ Below w.heap.size w w' := by
  have HP := hidP (sPrefixOk_any q.p.s q.p.H q.p.L q.p.b)
  have HWd := hidP (l2Width_any q.p.s q.p.H.toInt q.p.L.toInt)
  have HIn := hidP (l1In_any q.n q.p.b (wd q.p.s))
  rw [hpk] at HP
  rw [h1] at HIn
  go_enter Tryz.func81, Tryz.ntmps81
  go_wp2_with fail
  obtain ⟨x0, x1, x2, x3, x4⟩ := boxPl (q := q) w 68
  have xB := alloc_below w (.cells #[.bool q.p.s, .int .i64 q.p.H.toInt, .int .i64 q.p.L.toInt, .int .i64 q.p.b, .int .i64 q.n] 68)
  have xL := alloc_lt w (.cells #[.bool q.p.s, .int .i64 q.p.H.toInt, .int .i64 q.p.L.toInt, .int .i64 q.p.b, .int .i64 q.n] 68)
  have xS : (w.alloc (.cells #[.bool q.p.s, .int .i64 q.p.H.toInt, .int .i64 q.p.L.toInt, .int .i64 q.p.b, .int .i64 q.n] 68)).heap.size = w.heap.size + 1 := by simp
  generalize w.alloc (.cells #[.bool q.p.s, .int .i64 q.p.H.toInt, .int .i64 q.p.L.toInt, .int .i64 q.p.b, .int .i64 q.n] 68) = W1 at *
  have HXB := hidP xB
  clear xB xS
  have HSx : Hid (∀ x, Below W1.heap.size W1 x → (x.cell? ⟨w.heap.size, 0, none⟩ = some (.bool q.p.s) ∧ x.cell? ⟨w.heap.size, 1, none⟩ = some (.int .i64 q.p.H.toInt) ∧ x.cell? ⟨w.heap.size, 2, none⟩ = some (.int .i64 q.p.L.toInt) ∧ x.cell? ⟨w.heap.size, 3, none⟩ = some (.int .i64 q.p.b) ∧ x.cell? ⟨w.heap.size, 4, none⟩ = some (.int .i64 q.n) ∧ Below W1.heap.size W1 x)) := hidP fun x h =>
    ⟨(h.cell xL).trans x0, (h.cell xL).trans x1, (h.cell xL).trans x2, (h.cell xL).trans x3, (h.cell xL).trans x4, h⟩
  refine wp_region_held_drew (S := (fun x => x.cell? ⟨w.heap.size, 0, none⟩ = some (.bool q.p.s) ∧ x.cell? ⟨w.heap.size, 1, none⟩ = some (.int .i64 q.p.H.toInt) ∧ x.cell? ⟨w.heap.size, 2, none⟩ = some (.int .i64 q.p.L.toInt) ∧ x.cell? ⟨w.heap.size, 3, none⟩ = some (.int .i64 q.p.b) ∧ x.cell? ⟨w.heap.size, 4, none⟩ = some (.int .i64 q.n) ∧ Below W1.heap.size W1 x)) (by kernel_rfl) ?_ (fun hHeld => ?_)
  · try dsimp only
    exact HSx.out _ ((Below.refl _ _).drew)
  refine tk 0 3 rfl ?_; simp only [pa]
  refine tk 1 4 rfl ?_; simp only [pa]
  refine wpAnyH_ready (rs := [2]) (by kernel_rfl) (by simp) ?_
  refine AllReadyH.cons rfl (fun K hK => ?_) AllReadyH.nil
  go_simp
  go_wp2_with (first | (go_at_call 85; refine (HP.out _).mono ?_; rintro e w2 ⟨rfl, hb2⟩; have b2 := (hHeld.2.2.2.2.2).trans (hb2.mono (hHeld.2.2.2.2.2).size)))
  refine hK.out _ _ ?_ (fun hHeld => ?_)
  · try dsimp only
    exact HSx.out _ b2
  clear hK K
  refine tk 3 6 rfl ?_; simp only [pa]
  refine tk 4 7 rfl ?_; simp only [pa]
  refine tk 5 8 rfl ?_; simp only [pa]
  refine tk 6 9 rfl ?_; simp only [pa]
  refine tk 7 10 rfl ?_; simp only [pa]
  refine tk 8 11 rfl ?_; simp only [pa]
  refine tk 9 12 rfl ?_; simp only [pa]
  refine tk 10 13 rfl ?_; simp only [pa]
  refine tk 11 14 rfl ?_; simp only [pa]
  refine wpAnyH_ready (rs := [12]) (by kernel_rfl) (by simp) ?_
  refine AllReadyH.cons rfl (fun K hK => ?_) AllReadyH.nil
  go_simp
  go_wp2_with (first | (go_at_call 107; refine (HWd.out _).mono ?_; rintro e w3 ⟨rfl, hb3⟩; have b3 := (hHeld.2.2.2.2.2).trans (hb3.mono (hHeld.2.2.2.2.2).size)))
  refine hK.out _ _ ?_ (fun hHeld => ?_)
  · try dsimp only
    exact HSx.out _ b3
  clear hK K
  refine wpAnyH_ready (rs := [13]) (by kernel_rfl) (by simp) ?_
  refine AllReadyH.cons rfl (fun K hK => ?_) AllReadyH.nil
  go_simp
  go_wp2_with (first | (go_at_call 87; refine (HIn.out _).mono ?_; rintro e w' ⟨rfl, rfl⟩))
  refine hK.out _ _ ?_ (fun hHeld => ?_)
  · try dsimp only
    exact HSx.out _ (hHeld.2.2.2.2.2)
  clear hK K
  refine tk 14 17 rfl ?_; simp only [pa]
  refine tk 15 18 rfl ?_; simp only [pa]
  refine tk 16 19 rfl ?_; simp only [pa]
  refine tk 17 20 rfl ?_; simp only [pa]
  refine tk 18 21 rfl ?_; simp only [pa]
  refine tk 19 22 rfl ?_; simp only [pa]
  refine tk 20 23 rfl ?_; simp only [pa]
  refine tk 21 24 rfl ?_; simp only [pa]
  refine tk 22 25 rfl ?_; simp only [pa]
  refine tk 23 26 rfl ?_; simp only [pa]
  refine tk 24 2 rfl ?_; simp only [pa]
  have HE := hidP (hHeld.2.2.2.2.2)
  refine wpAnyH_done (by kernel_rfl) ?_ _
  clear hHeld
  go_wp2_with fail
  go_ret
  exact ⟨rfl, HXB.out.trans (HE.out.mono HXB.out.size)⟩

theorem sPoolOk_any (q : Pl) (w : World) :
    Calls Tryz.prog 81 #[.agg #[.bool q.p.s, .int .i64 q.p.H.toInt, .int .i64 q.p.L.toInt, .int .i64 q.p.b, .int .i64 q.n]] w fun e w' => e = .returned (.bool (okPl q)) ∧ Below w.heap.size w w' := by
  unfold okPl Pf.pk
  cases hpk : pokB q.p.s q.p.H q.p.L q.p.b
  · exact sPoolOk_a q w hpk
  · have hb := (pokB_parts hpk).2.1
    have hwd := wd_le' q.p.s
    have hw : IntKind.i64.wrap (q.p.b + 20) = q.p.b + 20 := by rw [IntKind.wrap_i64]; omega
    have he : (decide (q.p.b ≤ q.n) && (decide (q.n ≤ (wd q.p.s : Int)) && decide (q.n ≤ q.p.b + 20))) = (decide (q.p.b ≤ q.n ∧ q.n ≤ (wd q.p.s : Int)) && decide (q.n ≤ q.p.b + 20)) := by
      rw [Bool.decide_and, Bool.and_assoc]
    rw [Bool.true_and, he]
    cases h1 : decide (q.p.b ≤ q.n ∧ q.n ≤ (wd q.p.s : Int))
    · exact sPoolOk_b q w hpk h1
    · exact sPoolOk_c q w hpk hw h1

end Go.Proofs.YtngcbhbcocnbeaaGreat
namespace Go.Proofs.YtngcbhbcocnbeaaGreat
open Go.RowKit

/-- The place of the first that f likes. -/
def ixF {α : Type} (f : α → Bool) : Int → List α → Int
  | _, [] => -1
  | i, q :: t => if f q = true then i else ixF f (i + 1) t
theorem ixF_step {α : Type} (f : α → Bool) (ps : List α) (k : Nat) (q : α) (h : ps[k]? = some q) : ixF f k (ps.drop k) = if f q = true then (k : Int) else ixF f ((k + 1 : Nat) : Int) (ps.drop (k + 1)) := by
  have hk : k < ps.length := by
    rcases Nat.lt_or_ge k ps.length with h' | h'
    · exact h'
    · rw [List.getElem?_eq_none h'] at h; cases h
  have e : ps.drop k = q :: ps.drop (k + 1) := by
    rw [List.drop_eq_getElem_cons hk]
    rw [List.getElem?_eq_getElem hk] at h
    cases h; rfl
  rw [e]
  rfl
theorem ixF_any {α : Type} (f : α → Bool) : ∀ (ps : List α) (i : Int), 0 ≤ i → decide (0 ≤ ixF f i ps) = ps.any f
  | [], _, _ => rfl
  | q :: t, i, hi => by
      unfold ixF
      cases h : f q
      · rw [if_neg (by simp), ixF_any f t (i + 1) (by omega), List.any_cons, h, Bool.false_or]
      · rw [if_pos rfl, List.any_cons, h, Bool.true_or]; exact decide_eq_true hi
theorem ret_i {k : IntKind} {a b : Int} (h : a = b) : Ending.returned (.int k a) = .returned (.int k b) := by rw [h]

set_option maxHeartbeats 1000000 in
theorem idx_carved (f : Pl → Bool) (cb : Nat) (a : Option Addr) (n cap : Nat) (ps : List Pl) (w : World) (hn : n = ps.length) (hB : RowG KPl w a ps) (hl : n ≤ 9000000000)
    (hf : ∀ (x : Pl) (W : World), Below w.heap.size w W → Calls Tryz.prog 135 #[.agg #[.bool x.p.s, .int .i64 x.p.H.toInt, .int .i64 x.p.L.toInt, .int .i64 x.p.b, .int .i64 x.n], .pointer (some ⟨cb, 0, none⟩)] W fun e w' => e = .returned (.bool (f x)) ∧ Below W.heap.size W w') :
    Calls Tryz.prog 148 #[.slice a n cap, .func (.func 135) #[] #[.pointer (some ⟨cb, 0, none⟩)]] w fun e w' => e = .returned (.int .i64 (ixF f 0 ps)) ∧ Below w.heap.size w w' := by
  have HB := hidP hB
  have HN := hidP hn
  have HF := hidP hf
  clear hB hn hf
  go_enter Tryz.func148, Tryz.ntmps148
  go_wp2_with fail
  go_loopw [5, 8] (fun _ t8 wr => ∃ k : Nat, k ≤ n ∧ t8 = .int .i64 k ∧ ixF f 0 ps = ixF f k (ps.drop k) ∧ Below w.heap.size w wr) (fun _ t8 _ => n - (intOf t8).toNat)
  case atStart => exact ⟨0, Nat.zero_le _, rfl, rfl, Below.refl _ _⟩
  case round =>
    obtain ⟨k, hk, rfl, hix, hbel⟩ := hrel
    by_cases hlt : k < n
    · obtain ⟨p, o, q, rfl, hp, hq, c0, c1, c2, c3, c4⟩ := rowPl HB.out k (by rw [← HN.out]; exact hlt)
      have d0 := (hbel.cell hp).trans c0
      have d1 := (hbel.cell hp).trans c1
      have d2 := (hbel.cell hp).trans c2
      have d3 := (hbel.cell hp).trans c3
      have d4 := (hbel.cell hp).trans c4
      have HBel := hidP hbel
      have hst := ixF_step f ps k q hq
      rw [hst] at hix
      have HX := hidP hix
      have HFq := hidP (HF.out q _ hbel)
      clear hbel c0 c1 c2 c3 c4 hq hix hst
      cases hfq : f q
      · rw [hfq] at HX HFq
        go_wp2_with (first | (go_at_call 135; refine (HFq.out).mono ?_; rintro e w2 ⟨rfl, hb2⟩))
        have HB2 := hidP (HBel.out.trans (hb2.mono HBel.out.size))
        clear hb2 HBel d0 d1 d2 d3 d4
        go_wp2_with fail
        go_roundw
        case rel => exact ⟨k + 1, by omega, by go_num, by rw [HX.out]; simp, HB2.out⟩
        case measure => simp [intOf]; omega
      · rw [hfq] at HX HFq
        go_wp2_with (first | (go_at_call 135; refine (HFq.out).mono ?_; rintro e w2 ⟨rfl, hb2⟩))
        have HB2 := hidP (HBel.out.trans (hb2.mono HBel.out.size))
        clear hb2 HBel d0 d1 d2 d3 d4
        go_wp2_with fail
        go_ret
        exact ⟨ret_i (by rw [HX.out]; simp), HB2.out⟩
    · have HX : Hid (ixF f 0 ps = -1) := by
        rw [List.drop_of_length_le (by have := HN.out; omega)] at hix
        exact hidP hix
      have HBel := hidP hbel
      clear hbel hix
      go_wp2_with fail
      go_ret
      exact ⟨ret_i HX.out.symm, HBel.out⟩

set_option maxHeartbeats 1000000 in
theorem cont_carved (f : Pl → Bool) (cb : Nat) (a : Option Addr) (n cap : Nat) (ps : List Pl) (w : World) (hn : n = ps.length) (hB : RowG KPl w a ps) (hl : n ≤ 9000000000)
    (hf : ∀ (x : Pl) (W : World), Below w.heap.size w W → Calls Tryz.prog 135 #[.agg #[.bool x.p.s, .int .i64 x.p.H.toInt, .int .i64 x.p.L.toInt, .int .i64 x.p.b, .int .i64 x.n], .pointer (some ⟨cb, 0, none⟩)] W fun e w' => e = .returned (.bool (f x)) ∧ Below W.heap.size W w') :
    Calls Tryz.prog 134 #[.slice a n cap, .func (.func 135) #[] #[.pointer (some ⟨cb, 0, none⟩)]] w fun e w' => e = .returned (.bool (ps.any f)) ∧ Below w.heap.size w w' := by
  have H := hidP (idx_carved f cb a n cap ps w hn hB hl hf)
  have HA := hidP (ixF_any f ps 0 (by omega))
  clear hn hB hl hf
  go_enter Tryz.func134, Tryz.ntmps134
  go_wp2_with fail
  refine (H.out).mono ?_
  rintro e w2 ⟨rfl, hb2⟩
  go_wp2_with fail
  go_ret
  exact ⟨ret_b HA.out, hb2⟩

end Go.Proofs.YtngcbhbcocnbeaaGreat
namespace Go.Proofs.YtngcbhbcocnbeaaGreat
open Go.RowKit

set_option maxHeartbeats 1000000 in
theorem iOverlaps_any (s : Bool) (H L : BitVec 64) (b : Int) (s' : Bool) (H' L' : BitVec 64) (b' : Int) (w : World) :
    Calls Tryz.prog 132 #[.agg #[.bool s, .int .i64 H.toInt, .int .i64 L.toInt, .int .i64 b], .agg #[.bool s', .int .i64 H'.toInt, .int .i64 L'.toInt, .int .i64 b']] w fun e w' => e = .returned (.bool (winB s H L b s' H' L' b' || winB s' H' L' b' s H L b)) ∧ Below w.heap.size w w' := by
  cases hp : pokB s H L b
  · rw [win_no1 hp, win_no2 hp, Bool.or_false]
    have HS : Hid (∀ w, _) := spanOf_no s H L b hp
    clear hp
    cases hq : pokB s' H' L' b'
    · have HT : Hid (∀ w, _) := spanOf_no s' H' L' b' hq
      clear hq
      go_enter Tryz.func132, Tryz.ntmps132
      go_wp2_with fail
      refine (HS.out _).mono ?_
      rintro e w1 ⟨rfl, hb1⟩
      have hz1 := hb1.size
      try simp at hz1
      have f10 : w.heap.size < w1.heap.size := by omega
      have f11 : w.heap.size + 1 < w1.heap.size := by omega
      refine olds_k (w.heap.size + 2) hb1 ?_ ?_
      · first | omega | (simp; omega) | (simp; done)
      intro hc1 hf1
      go_wp2_with fail
      refine (HT.out _).mono ?_
      rintro e w2 ⟨rfl, hb2⟩
      have hz2 := hb2.size
      try simp at hz2
      have f2x0 : w.heap.size < w2.heap.size := by omega
      have f2x1 : w.heap.size + 1 < w2.heap.size := by omega
      have f2x2 : w1.heap.size < w2.heap.size := by omega
      have f2x3 : w.heap.size + 1 < w1.heap.size + 1 := by omega
      refine olds_k (w1.heap.size + 1) hb2 ?_ ?_
      · first | omega | (simp; omega) | (simp; done)
      intro hc2 hf2
      go_wp2_with fail
      go_ret
      refine ⟨rfl, ?_⟩
      repeat (first | with_reducible exact Below.refl _ _ | (with_reducible refine Below.drew ?_) | (with_reducible refine Below.alloc ?_ ?_ _; rotate_left; (focus (first | omega | (simp; omega) | (simp; done)))) | (with_reducible refine Below.setCell ?_ ?_ _; rotate_left; (focus (first | omega | (simp; omega) | (simp; done)))) | (with_reducible refine Below.trans ?_ (hb2.mono ?_); rotate_left; (focus (first | omega | (simp; omega) | (simp; done)))) | (with_reducible refine Below.trans ?_ (hb1.mono ?_); rotate_left; (focus (first | omega | (simp; omega) | (simp; done)))))
    · obtain ⟨m, hm⟩ : ∃ m : Nat, (m : Int) = (wd s' : Int) - b' := ⟨((wd s' : Int) - b').toNat, by have := (pokB_parts hq).2.1; omega⟩
      have HT : Hid (∀ w, _) := spanOf_yes s' H' L' b' m hm hq
      clear hq hm
      go_enter Tryz.func132, Tryz.ntmps132
      go_wp2_with fail
      refine (HS.out _).mono ?_
      rintro e w1 ⟨rfl, hb1⟩
      have hz1 := hb1.size
      try simp at hz1
      have f10 : w.heap.size < w1.heap.size := by omega
      have f11 : w.heap.size + 1 < w1.heap.size := by omega
      refine olds_k (w.heap.size + 2) hb1 ?_ ?_
      · first | omega | (simp; omega) | (simp; done)
      intro hc1 hf1
      go_wp2_with fail
      refine (HT.out _).mono ?_
      rintro e w2 ⟨rfl, hb2⟩
      have hz2 := hb2.size
      try simp at hz2
      have f2x0 : w.heap.size < w2.heap.size := by omega
      have f2x1 : w.heap.size + 1 < w2.heap.size := by omega
      have f2x2 : w1.heap.size < w2.heap.size := by omega
      have f2x3 : w.heap.size + 1 < w1.heap.size + 1 := by omega
      refine olds_k (w1.heap.size + 1) hb2 ?_ ?_
      · first | omega | (simp; omega) | (simp; done)
      intro hc2 hf2
      go_wp2_with fail
      go_ret
      refine ⟨rfl, ?_⟩
      repeat (first | with_reducible exact Below.refl _ _ | (with_reducible refine Below.drew ?_) | (with_reducible refine Below.alloc ?_ ?_ _; rotate_left; (focus (first | omega | (simp; omega) | (simp; done)))) | (with_reducible refine Below.setCell ?_ ?_ _; rotate_left; (focus (first | omega | (simp; omega) | (simp; done)))) | (with_reducible refine Below.trans ?_ (hb2.mono ?_); rotate_left; (focus (first | omega | (simp; omega) | (simp; done)))) | (with_reducible refine Below.trans ?_ (hb1.mono ?_); rotate_left; (focus (first | omega | (simp; omega) | (simp; done)))))
  · obtain ⟨n, hn⟩ : ∃ n : Nat, (n : Int) = (wd s : Int) - b := ⟨((wd s : Int) - b).toNat, by have := (pokB_parts hp).2.1; omega⟩
    have HS : Hid (∀ w, _) := spanOf_yes s H L b n hn hp
    cases hq : pokB s' H' L' b'
    · rw [win_no2 hq, win_no1 hq, Bool.or_false]
      have HT : Hid (∀ w, _) := spanOf_no s' H' L' b' hq
      clear hq hp hn
      go_enter Tryz.func132, Tryz.ntmps132
      go_wp2_with fail
      refine (HS.out _).mono ?_
      rintro e w1 ⟨rfl, hb1⟩
      have hz1 := hb1.size
      try simp at hz1
      have f10 : w.heap.size < w1.heap.size := by omega
      have f11 : w.heap.size + 1 < w1.heap.size := by omega
      refine olds_k (w.heap.size + 2) hb1 ?_ ?_
      · first | omega | (simp; omega) | (simp; done)
      intro hc1 hf1
      go_wp2_with fail
      refine (HT.out _).mono ?_
      rintro e w2 ⟨rfl, hb2⟩
      have hz2 := hb2.size
      try simp at hz2
      have f2x0 : w.heap.size < w2.heap.size := by omega
      have f2x1 : w.heap.size + 1 < w2.heap.size := by omega
      have f2x2 : w1.heap.size < w2.heap.size := by omega
      have f2x3 : w.heap.size + 1 < w1.heap.size + 1 := by omega
      refine olds_k (w1.heap.size + 1) hb2 ?_ ?_
      · first | omega | (simp; omega) | (simp; done)
      intro hc2 hf2
      go_wp2_with fail
      go_ret
      refine ⟨rfl, ?_⟩
      repeat (first | with_reducible exact Below.refl _ _ | (with_reducible refine Below.drew ?_) | (with_reducible refine Below.alloc ?_ ?_ _; rotate_left; (focus (first | omega | (simp; omega) | (simp; done)))) | (with_reducible refine Below.setCell ?_ ?_ _; rotate_left; (focus (first | omega | (simp; omega) | (simp; done)))) | (with_reducible refine Below.trans ?_ (hb2.mono ?_); rotate_left; (focus (first | omega | (simp; omega) | (simp; done)))) | (with_reducible refine Below.trans ?_ (hb1.mono ?_); rotate_left; (focus (first | omega | (simp; omega) | (simp; done)))))
    · obtain ⟨m, hm⟩ : ∃ m : Nat, (m : Int) = (wd s' : Int) - b' := ⟨((wd s' : Int) - b').toNat, by have := (pokB_parts hq).2.1; omega⟩
      rw [win_with hp hq hn hm, win_with hq hp hm hn]
      have hn1 : n ≤ 128 := by have := wd_le' s; have := (pokB_parts hp).2.1; omega
      have hm1 : m ≤ 128 := by have := wd_le' s'; have := (pokB_parts hq).2.1; omega
      have HT : Hid (∀ w, _) := spanOf_yes s' H' L' b' m hm hq
      have HW : Hid (∀ w, _) := overlaps_any s H L n hn1 s' H' L' m hm1
      generalize (withB s H L n s' H' L' m || withB s' H' L' m s H L n) = B1 at HW ⊢
      clear hq hm hp hn
      go_enter Tryz.func132, Tryz.ntmps132
      go_wp2_with fail
      refine (HS.out _).mono ?_
      rintro e w1 ⟨rfl, hb1⟩
      have hz1 := hb1.size
      try simp at hz1
      have f10 : w.heap.size < w1.heap.size := by omega
      have f11 : w.heap.size + 1 < w1.heap.size := by omega
      refine olds_k (w.heap.size + 2) hb1 ?_ ?_
      · first | omega | (simp; omega) | (simp; done)
      intro hc1 hf1
      go_wp2_with fail
      refine (HT.out _).mono ?_
      rintro e w2 ⟨rfl, hb2⟩
      have hz2 := hb2.size
      try simp at hz2
      have f2x0 : w.heap.size < w2.heap.size := by omega
      have f2x1 : w.heap.size + 1 < w2.heap.size := by omega
      have f2x2 : w1.heap.size < w2.heap.size := by omega
      have f2x3 : w.heap.size + 1 < w1.heap.size + 1 := by omega
      refine olds_k (w1.heap.size + 1) hb2 ?_ ?_
      · first | omega | (simp; omega) | (simp; done)
      intro hc2 hf2
      go_wp2_with fail
      refine (HW.out _).mono ?_
      rintro e w3 ⟨rfl, hb3⟩
      have hz3 := hb3.size
      try simp at hz3
      have f30 : w.heap.size < w3.heap.size := by omega
      have f31 : w.heap.size + 1 < w3.heap.size := by omega
      refine olds_k (w.heap.size + 2) hb3 ?_ ?_
      · first | omega | (simp; omega) | (simp; done)
      intro hc3 hf3
      go_wp2_with fail
      go_ret
      refine ⟨rfl, ?_⟩
      repeat (first | with_reducible exact Below.refl _ _ | (with_reducible refine Below.drew ?_) | (with_reducible refine Below.alloc ?_ ?_ _; rotate_left; (focus (first | omega | (simp; omega) | (simp; done)))) | (with_reducible refine Below.setCell ?_ ?_ _; rotate_left; (focus (first | omega | (simp; omega) | (simp; done)))) | (with_reducible refine Below.trans ?_ (hb3.mono ?_); rotate_left; (focus (first | omega | (simp; omega) | (simp; done)))) | (with_reducible refine Below.trans ?_ (hb2.mono ?_); rotate_left; (focus (first | omega | (simp; omega) | (simp; done)))) | (with_reducible refine Below.trans ?_ (hb1.mono ?_); rotate_left; (focus (first | omega | (simp; omega) | (simp; done)))))

end Go.Proofs.YtngcbhbcocnbeaaGreat
namespace Go.Proofs.YtngcbhbcocnbeaaGreat
open Go.RowKit

set_option maxHeartbeats 1000000 in
theorem follows_any (p q : Pf) (hp : p.pk = true) (hq : q.pk = true) (w : World) :
    Calls Tryz.prog 115 #[.agg #[.bool p.s, .int .i64 p.H.toInt, .int .i64 p.L.toInt, .int .i64 p.b], .agg #[.bool q.s, .int .i64 q.H.toInt, .int .i64 q.L.toInt, .int .i64 q.b]] w fun e w' => e = .returned (.bool (folB p q)) ∧ Below w.heap.size w w' := by
  have HC := hidP (iCmpP p q hp hq)
  have HO := hidP (iOverlaps_any p.s p.H p.L p.b q.s q.H q.L q.b)
  change Hid (∀ w, Calls Tryz.prog 132 _ w fun e w' => e = .returned (.bool (ovP p q)) ∧ Below w.heap.size w w') at HO
  unfold folB
  cases h1 : decide (cmpP p q < 0)
  · go_enter Tryz.func115, Tryz.ntmps115
    go_wp2_with fail
    refine (HC.out _).mono ?_
    rintro e w1 ⟨rfl, hb1⟩
    have hz1 := hb1.size
    try simp at hz1
    have f10 : w.heap.size < w1.heap.size := by omega
    have f11 : w.heap.size + 1 < w1.heap.size := by omega
    refine olds_k (w.heap.size + 2) hb1 ?_ ?_
    · first | omega | (simp; omega) | (simp; done)
    intro hc1 hf1
    go_wp2_with fail
    go_ret
    refine ⟨rfl, ?_⟩
    repeat (first | with_reducible exact Below.refl _ _ | (with_reducible refine Below.drew ?_) | (with_reducible refine Below.alloc ?_ ?_ _; rotate_left; (focus (first | omega | (simp; omega) | (simp; done)))) | (with_reducible refine Below.setCell ?_ ?_ _; rotate_left; (focus (first | omega | (simp; omega) | (simp; done)))) | (with_reducible refine Below.trans ?_ (hb1.mono ?_); rotate_left; (focus (first | omega | (simp; omega) | (simp; done)))))
  · generalize ovP p q = r at *
    go_enter Tryz.func115, Tryz.ntmps115
    go_wp2_with fail
    refine (HC.out _).mono ?_
    rintro e w1 ⟨rfl, hb1⟩
    have hz1 := hb1.size
    try simp at hz1
    have f10 : w.heap.size < w1.heap.size := by omega
    have f11 : w.heap.size + 1 < w1.heap.size := by omega
    refine olds_k (w.heap.size + 2) hb1 ?_ ?_
    · first | omega | (simp; omega) | (simp; done)
    intro hc1 hf1
    go_wp2_with fail
    refine (HO.out _).mono ?_
    rintro e w2 ⟨rfl, hb2⟩
    have hz2 := hb2.size
    try simp at hz2
    go_wp2_with fail
    go_ret
    refine ⟨by cases r <;> rfl, ?_⟩
    repeat (first | with_reducible exact Below.refl _ _ | (with_reducible refine Below.drew ?_) | (with_reducible refine Below.alloc ?_ ?_ _; rotate_left; (focus (first | omega | (simp; omega) | (simp; done)))) | (with_reducible refine Below.setCell ?_ ?_ _; rotate_left; (focus (first | omega | (simp; omega) | (simp; done)))) | (with_reducible refine Below.trans ?_ (hb2.mono ?_); rotate_left; (focus (first | omega | (simp; omega) | (simp; done)))) | (with_reducible refine Below.trans ?_ (hb1.mono ?_); rotate_left; (focus (first | omega | (simp; omega) | (simp; done)))))

set_option maxHeartbeats 1000000 in
theorem carved1_any (p : Pf) (q : Pl) (cb : Nat) (w : World) (hcb : cb < w.heap.size) (x0 : w.cell? ⟨cb, 0, none⟩ = some (.bool p.s)) (x1 : w.cell? ⟨cb, 1, none⟩ = some (.int .i64 p.H.toInt)) (x2 : w.cell? ⟨cb, 2, none⟩ = some (.int .i64 p.L.toInt)) (x3 : w.cell? ⟨cb, 3, none⟩ = some (.int .i64 p.b)) :
    Calls Tryz.prog 135 #[.agg #[.bool q.p.s, .int .i64 q.p.H.toInt, .int .i64 q.p.L.toInt, .int .i64 q.p.b, .int .i64 q.n], .pointer (some ⟨cb, 0, none⟩)] w fun e w' => e = .returned (.bool ((p.b == q.n) && winP p q.p)) ∧ Below w.heap.size w w' := by
  have HW := hidP (iWithin_any p.s p.H p.L p.b q.p.s q.p.H q.p.L q.p.b)
  change Hid (∀ w, Calls Tryz.prog 136 _ w fun e w' => e = .returned (.bool (winP p q.p)) ∧ Below w.heap.size w w') at HW
  have hne : cb ≠ w.heap.size := by omega
  cases h1 : (p.b == q.n)
  · go_enter Tryz.func135, Tryz.ntmps135
    go_wp2_with fail
    go_ret
    exact ⟨rfl, (Below.refl _ _).alloc (Nat.le_refl _) _⟩
  · generalize winP p q.p = r at *
    go_enter Tryz.func135, Tryz.ntmps135
    go_wp2_with fail
    refine (HW.out _).mono ?_
    rintro e w1 ⟨rfl, hb1⟩
    go_wp2_with fail
    go_ret
    refine ⟨by cases r <;> rfl, ?_⟩
    repeat (first | with_reducible exact Below.refl _ _ | (with_reducible refine Below.drew ?_) | (with_reducible refine Below.alloc ?_ ?_ _; rotate_left; (focus (first | omega | (simp; omega) | (simp; done)))) | (with_reducible refine Below.setCell ?_ ?_ _; rotate_left; (focus (first | omega | (simp; omega) | (simp; done)))) | (with_reducible refine Below.trans ?_ (hb1.mono ?_); rotate_left; (focus (first | omega | (simp; omega) | (simp; done)))))

set_option maxHeartbeats 1000000 in
theorem isCarved_any (p : Pf) (a : Option Addr) (n cap : Nat) (ps : List Pl) (w : World) (hn : n = ps.length) (hB : RowG KPl w a ps) (hl : n ≤ 9000000000) :
    Calls Tryz.prog 117 #[.slice a n cap, .agg #[.bool p.s, .int .i64 p.H.toInt, .int .i64 p.L.toInt, .int .i64 p.b]] w fun e w' => e = .returned (.bool (carB ps p)) ∧ Below w.heap.size w w' := by
  have HB := hidP hB
  have HN := hidP hn
  clear hB hn
  go_enter Tryz.func117, Tryz.ntmps117
  go_wp2_with fail
  obtain ⟨x0, x1, x2, x3⟩ := box4 (p := p) w 66
  have xB := alloc_below w (.cells #[.bool p.s, .int .i64 p.H.toInt, .int .i64 p.L.toInt, .int .i64 p.b] 66)
  have xL := alloc_lt w (.cells #[.bool p.s, .int .i64 p.H.toInt, .int .i64 p.L.toInt, .int .i64 p.b] 66)
  have xS : (w.alloc (.cells #[.bool p.s, .int .i64 p.H.toInt, .int .i64 p.L.toInt, .int .i64 p.b] 66)).heap.size = w.heap.size + 1 := by simp
  generalize w.alloc (.cells #[.bool p.s, .int .i64 p.H.toInt, .int .i64 p.L.toInt, .int .i64 p.b] 66) = W1 at *
  have HC := hidP (cont_carved (fun q => (p.b == q.n) && winP p q.p) w.heap.size a n cap ps W1 HN.out (HB.out.later xB) hl (fun q W hW => carved1_any p q w.heap.size W (Nat.lt_of_lt_of_le xL hW.size) ((hW.cell xL).trans x0) ((hW.cell xL).trans x1) ((hW.cell xL).trans x2) ((hW.cell xL).trans x3)))
  have HX := hidP xB
  clear xB xS x0 x1 x2 x3
  refine (HC.out).mono ?_
  rintro e w1 ⟨rfl, hb1⟩
  go_wp2_with fail
  go_ret
  exact ⟨rfl, HX.out.trans (hb1.mono HX.out.size)⟩

end Go.Proofs.YtngcbhbcocnbeaaGreat
namespace Go.Proofs.YtngcbhbcocnbeaaGreat
open Go.RowKit

/-- What stands ahead of place k. -/
def prvP (ps : List Pl) : Nat → Option Pf
  | 0 => none
  | j + 1 => (ps[j]?).map (·.p)
def prvB (ps : List Bk) : Nat → Option Pf
  | 0 => none
  | j + 1 => (ps[j]?).map (·.p)
theorem drop_at {α : Type} {ps : List α} {k : Nat} {q : α} (h : ps[k]? = some q) : ps.drop k = q :: ps.drop (k + 1) := by
  have hk : k < ps.length := by
    rcases Nat.lt_or_ge k ps.length with h' | h'
    · exact h'
    · rw [List.getElem?_eq_none h'] at h; cases h
  rw [List.drop_eq_getElem_cons hk]
  rw [List.getElem?_eq_getElem hk] at h
  cases h; rfl
theorem prvP_next {ps : List Pl} {k : Nat} {q : Pl} (h : ps[k]? = some q) : prvP ps (k + 1) = some q.p := by show (ps[k]?).map _ = _; rw [h]; rfl
theorem prvB_next {ps : List Bk} {k : Nat} {q : Bk} (h : ps[k]? = some q) : prvB ps (k + 1) = some q.p := by show (ps[k]?).map _ = _; rw [h]; rfl
theorem below_box {B : Nat} {w wr W x : World} (h1 : Below B w wr) (hB : B ≤ wr.heap.size) (h2 : Below wr.heap.size wr W) (h3 : Below W.heap.size W x) : Below B w x :=
  (h1.trans (h2.mono hB)).trans (h3.mono (Nat.le_trans hB h2.size))

set_option maxRecDepth 10000 in
set_option maxHeartbeats 1000000 in
theorem poolsOk_any (a : Option Addr) (n cap : Nat) (ps : List Pl) (w : World) (hn : n = ps.length) (hB : RowG KPl w a ps) (hl : n ≤ 9000000000) :
    Calls Tryz.prog 94 #[.slice a n cap] w fun e w' => e = .returned (.bool (poolsF none ps)) ∧ Below w.heap.size w w' := by
  have HB := hidP hB
  have HN := hidP hn
  clear hB hn
  go_enter Tryz.func94, Tryz.ntmps94
  go_wp2_with fail
  go_loopw [3, 4, 7] (fun _ _ t7 wr => ∃ k : Nat, k ≤ n ∧ t7 = .int .i64 k ∧ poolsF none ps = poolsF (prvP ps k) (ps.drop k) ∧ (∀ r, prvP ps k = some r → r.pk = true) ∧ Below w.heap.size w wr) (fun _ _ t7 _ => n - (intOf t7).toNat)
  case atStart => exact ⟨0, Nat.zero_le _, rfl, rfl, (fun r h => by cases h), Below.refl _ _⟩
  case round =>
    obtain ⟨k, hk, rfl, hpo, hpr, hbel⟩ := hrel
    by_cases hlt : k < n
    · obtain ⟨p, o, q, rfl, hp, hq, c0, c1, c2, c3, c4⟩ := rowPl HB.out k (by rw [← HN.out]; exact hlt)
      have d0 := (hbel.cell hp).trans c0
      have d1 := (hbel.cell hp).trans c1
      have d2 := (hbel.cell hp).trans c2
      have d3 := (hbel.cell hp).trans c3
      have d4 := (hbel.cell hp).trans c4
      have hpw : p < wr.heap.size := Nat.lt_of_lt_of_le hp hbel.size
      rw [drop_at hq] at hpo
      have hpo' : poolsF none ps = ((okPl q && (match prvP ps k with | none => true | some r => folB r q.p)) && poolsF (some q.p) (ps.drop (k + 1))) := hpo
      have HNx := hidP (prvP_next hq)
      have HPo := hidP hpo'
      have HPr := hidP hpr
      have HBel := hidP hbel
      have HP1 := hidP (iPoolOk_any q)
      clear c0 c1 c2 c3 c4 hq hpo hpo' hpr hbel
      cases hok : okPl q
      · rw [hok] at HP1 HPo
        have HF : Hid (poolsF none ps = false) := hidP (by rw [HPo.out]; rfl)
        clear HPo HPr HNx
        go_wp2_with fail
        obtain ⟨x0, x1, x2, x3, x4⟩ := boxPl (q := q) wr 68
        have xB := alloc_below wr (.cells #[.bool q.p.s, .int .i64 q.p.H.toInt, .int .i64 q.p.L.toInt, .int .i64 q.p.b, .int .i64 q.n] 68)
        have xL := alloc_lt wr (.cells #[.bool q.p.s, .int .i64 q.p.H.toInt, .int .i64 q.p.L.toInt, .int .i64 q.p.b, .int .i64 q.n] 68)
        have xS : (wr.alloc (.cells #[.bool q.p.s, .int .i64 q.p.H.toInt, .int .i64 q.p.L.toInt, .int .i64 q.p.b, .int .i64 q.n] 68)).heap.size = wr.heap.size + 1 := by simp
        generalize wr.alloc (.cells #[.bool q.p.s, .int .i64 q.p.H.toInt, .int .i64 q.p.L.toInt, .int .i64 q.p.b, .int .i64 q.n] 68) = W2 at *
        have HXB := hidP xB
        clear xS
        clear xB
        have HSx : Hid (∀ x, Below W2.heap.size W2 x → (x.cell? ⟨wr.heap.size, 0, none⟩ = some (.bool q.p.s) ∧ x.cell? ⟨wr.heap.size, 1, none⟩ = some (.int .i64 q.p.H.toInt) ∧ x.cell? ⟨wr.heap.size, 2, none⟩ = some (.int .i64 q.p.L.toInt) ∧ x.cell? ⟨wr.heap.size, 3, none⟩ = some (.int .i64 q.p.b) ∧ x.cell? ⟨wr.heap.size, 4, none⟩ = some (.int .i64 q.n) ∧ Below W2.heap.size W2 x)) := hidP fun x h =>
          ⟨(h.cell xL).trans x0, (h.cell xL).trans x1, (h.cell xL).trans x2, (h.cell xL).trans x3, (h.cell xL).trans x4, h⟩
        refine wp_region_held_drew (S := (fun x => x.cell? ⟨wr.heap.size, 0, none⟩ = some (.bool q.p.s) ∧ x.cell? ⟨wr.heap.size, 1, none⟩ = some (.int .i64 q.p.H.toInt) ∧ x.cell? ⟨wr.heap.size, 2, none⟩ = some (.int .i64 q.p.L.toInt) ∧ x.cell? ⟨wr.heap.size, 3, none⟩ = some (.int .i64 q.p.b) ∧ x.cell? ⟨wr.heap.size, 4, none⟩ = some (.int .i64 q.n) ∧ Below W2.heap.size W2 x)) (by kernel_rfl) ?_ (fun hHeld => ?_)
        · try dsimp only
          exact HSx.out _ ((Below.refl _ _).drew)
        refine tk 0 12 rfl ?_; simp only [pa]
        refine wpAnyH_ready (rs := [1]) (by kernel_rfl) (by simp) ?_
        refine AllReadyH.cons rfl (fun K hK => ?_) AllReadyH.nil
        go_simp
        go_wp2_with (first | (go_at_call 114; refine (HP1.out _).mono ?_; rintro e w2 ⟨rfl, hb2⟩; have b2 := (hHeld.2.2.2.2.2).trans (hb2.mono (hHeld.2.2.2.2.2).size)))
        refine hK.out _ _ ?_ (fun hHeld => ?_)
        · try dsimp only
          exact HSx.out _ b2
        clear hK K
        refine tk 2 14 rfl ?_; simp only [pa]
        refine tk 3 15 rfl ?_; simp only [pa]
        refine sk 4 16 rfl ?_; simp only [pa]
        refine sk 5 17 rfl ?_; simp only [pa]
        refine sk 6 18 rfl ?_; simp only [pa]
        refine sk 7 19 rfl ?_; simp only [pa]
        refine sk 8 20 rfl ?_; simp only [pa]
        refine sk 9 21 rfl ?_; simp only [pa]
        refine sk 10 22 rfl ?_; simp only [pa]
        refine sk 11 23 rfl ?_; simp only [pa]
        refine sk 12 24 rfl ?_; simp only [pa]
        refine sk 13 25 rfl ?_; simp only [pa]
        refine sk 14 26 rfl ?_; simp only [pa]
        refine sk 15 27 rfl ?_; simp only [pa]
        refine sk 16 28 rfl ?_; simp only [pa]
        refine sk 17 29 rfl ?_; simp only [pa]
        refine tk 18 30 rfl ?_; simp only [pa]
        have HE := hidP (hHeld.2.2.2.2.2)
        refine wpAnyH_done (by kernel_rfl) ?_ _
        clear hHeld
        go_wp2_with fail
        go_ret
        exact ⟨ret_b HF.out.symm, below_box HBel.out HBel.out.size HXB.out HE.out⟩
      · rw [hok] at HP1 HPo
        have HOk := hidP (okPl_pk hok)
        by_cases hk0 : k = 0
        · have g0 : decide ((0 : Int) < (k : Int)) = false := decide_eq_false (by omega)
          have g1 : decide (0 < k) = false := decide_eq_false (by omega)
          have HF : Hid (poolsF none ps = poolsF (some q.p) (ps.drop (k + 1))) := hidP (by rw [HPo.out, hk0]; rfl)
          clear HPo HPr hk0
          go_wp2_with fail
          obtain ⟨x0, x1, x2, x3, x4⟩ := boxPl (q := q) wr 68
          have xB := alloc_below wr (.cells #[.bool q.p.s, .int .i64 q.p.H.toInt, .int .i64 q.p.L.toInt, .int .i64 q.p.b, .int .i64 q.n] 68)
          have xL := alloc_lt wr (.cells #[.bool q.p.s, .int .i64 q.p.H.toInt, .int .i64 q.p.L.toInt, .int .i64 q.p.b, .int .i64 q.n] 68)
          have xS : (wr.alloc (.cells #[.bool q.p.s, .int .i64 q.p.H.toInt, .int .i64 q.p.L.toInt, .int .i64 q.p.b, .int .i64 q.n] 68)).heap.size = wr.heap.size + 1 := by simp
          generalize wr.alloc (.cells #[.bool q.p.s, .int .i64 q.p.H.toInt, .int .i64 q.p.L.toInt, .int .i64 q.p.b, .int .i64 q.n] 68) = W2 at *
          have HXB := hidP xB
          clear xS
          clear xB
          have HSx : Hid (∀ x, Below W2.heap.size W2 x → (x.cell? ⟨wr.heap.size, 0, none⟩ = some (.bool q.p.s) ∧ x.cell? ⟨wr.heap.size, 1, none⟩ = some (.int .i64 q.p.H.toInt) ∧ x.cell? ⟨wr.heap.size, 2, none⟩ = some (.int .i64 q.p.L.toInt) ∧ x.cell? ⟨wr.heap.size, 3, none⟩ = some (.int .i64 q.p.b) ∧ x.cell? ⟨wr.heap.size, 4, none⟩ = some (.int .i64 q.n) ∧ Below W2.heap.size W2 x)) := hidP fun x h =>
            ⟨(h.cell xL).trans x0, (h.cell xL).trans x1, (h.cell xL).trans x2, (h.cell xL).trans x3, (h.cell xL).trans x4, h⟩
          refine wp_region_held_drew (S := (fun x => x.cell? ⟨wr.heap.size, 0, none⟩ = some (.bool q.p.s) ∧ x.cell? ⟨wr.heap.size, 1, none⟩ = some (.int .i64 q.p.H.toInt) ∧ x.cell? ⟨wr.heap.size, 2, none⟩ = some (.int .i64 q.p.L.toInt) ∧ x.cell? ⟨wr.heap.size, 3, none⟩ = some (.int .i64 q.p.b) ∧ x.cell? ⟨wr.heap.size, 4, none⟩ = some (.int .i64 q.n) ∧ Below W2.heap.size W2 x)) (by kernel_rfl) ?_ (fun hHeld => ?_)
          · try dsimp only
            exact HSx.out _ ((Below.refl _ _).drew)
          refine tk 0 12 rfl ?_; simp only [pa]
          refine wpAnyH_ready (rs := [1]) (by kernel_rfl) (by simp) ?_
          refine AllReadyH.cons rfl (fun K hK => ?_) AllReadyH.nil
          go_simp
          go_wp2_with (first | (go_at_call 114; refine (HP1.out _).mono ?_; rintro e w2 ⟨rfl, hb2⟩; have b2 := (hHeld.2.2.2.2.2).trans (hb2.mono (hHeld.2.2.2.2.2).size)))
          refine hK.out _ _ ?_ (fun hHeld => ?_)
          · try dsimp only
            exact HSx.out _ b2
          clear hK K
          refine tk 2 14 rfl ?_; simp only [pa]
          refine tk 3 15 rfl ?_; simp only [pa]
          refine tk 4 16 rfl ?_; simp only [pa]
          refine tk 5 17 rfl ?_; simp only [pa]
          refine tk 6 18 rfl ?_; simp only [pa]
          refine sk 7 19 rfl ?_; simp only [pa]
          refine sk 8 20 rfl ?_; simp only [pa]
          refine sk 9 21 rfl ?_; simp only [pa]
          refine sk 10 22 rfl ?_; simp only [pa]
          refine sk 11 23 rfl ?_; simp only [pa]
          refine sk 12 24 rfl ?_; simp only [pa]
          refine sk 13 25 rfl ?_; simp only [pa]
          refine sk 14 26 rfl ?_; simp only [pa]
          refine sk 15 27 rfl ?_; simp only [pa]
          refine sk 16 28 rfl ?_; simp only [pa]
          refine tk 17 29 rfl ?_; simp only [pa]
          refine tk 18 30 rfl ?_; simp only [pa]
          have HE := hidP (hHeld.2.2.2.2.2)
          refine wpAnyH_done (by kernel_rfl) ?_ _
          clear hHeld
          go_wp2_with fail
          go_roundw
          case rel => exact ⟨k + 1, by omega, by go_num, by rw [HF.out, HNx.out], (fun r h => by rw [HNx.out] at h; cases h; exact HOk.out), below_box HBel.out HBel.out.size HXB.out HE.out⟩
          case measure => simp [intOf]; omega
        · have g0 : decide ((0 : Int) < (k : Int)) = true := decide_eq_true (by omega)
          have g1 : decide (0 < k) = true := decide_eq_true (by omega)
          obtain ⟨J, hJ⟩ : ∃ J, J = k - 1 := ⟨_, rfl⟩
          have hkJ : k = J + 1 := by omega
          have hJi : (k : Int) - 1 = (J : Int) := by omega
          have hJn : J < n := by omega
          have wJ : IntKind.i64.wrap (J : Int) = (J : Int) := by rw [IntKind.wrap_i64]; omega
          have hJ0 : (0 : Int) ≤ (J : Int) := by omega
          have hJ1 : (J : Int) < (n : Int) := by omega
          obtain ⟨p', o', r, he, hp', hr, c0, c1, c2, c3, c4⟩ := rowPl HB.out J (by rw [← HN.out]; exact hJn)
          simp only [Option.some.injEq, Addr.mk.injEq, and_true] at he
          obtain ⟨rfl, rfl⟩ := he
          have hprv : prvP ps k = some r.p := by rw [hkJ]; exact prvP_next hr
          have hrpk : r.p.pk = true := HPr.out _ hprv
          have HPo2 : Hid (poolsF none ps = ((true && folB r.p q.p) && poolsF (some q.p) (ps.drop (k + 1)))) := hidP (by rw [HPo.out, hprv])
          have HFo := hidP (follows_any r.p q.p hrpk HOk.out)
          have e0 := (HBel.out.cell hp').trans c0
          have e1 := (HBel.out.cell hp').trans c1
          have e2 := (HBel.out.cell hp').trans c2
          have e3 := (HBel.out.cell hp').trans c3
          clear c0 c1 c2 c3 c4 hr hprv hrpk hJ hkJ hk0 HPo HPr
          cases hfo : folB r.p q.p
          · rw [hfo] at HPo2 HFo
            have HF : Hid (poolsF none ps = false) := hidP (by rw [HPo2.out]; rfl)
            clear HPo2
            go_wp2_with fail
            obtain ⟨x0, x1, x2, x3, x4⟩ := boxPl (q := q) wr 68
            have xB := alloc_below wr (.cells #[.bool q.p.s, .int .i64 q.p.H.toInt, .int .i64 q.p.L.toInt, .int .i64 q.p.b, .int .i64 q.n] 68)
            have xL := alloc_lt wr (.cells #[.bool q.p.s, .int .i64 q.p.H.toInt, .int .i64 q.p.L.toInt, .int .i64 q.p.b, .int .i64 q.n] 68)
            have xS : (wr.alloc (.cells #[.bool q.p.s, .int .i64 q.p.H.toInt, .int .i64 q.p.L.toInt, .int .i64 q.p.b, .int .i64 q.n] 68)).heap.size = wr.heap.size + 1 := by simp
            generalize wr.alloc (.cells #[.bool q.p.s, .int .i64 q.p.H.toInt, .int .i64 q.p.L.toInt, .int .i64 q.p.b, .int .i64 q.n] 68) = W2 at *
            have HXB := hidP xB
            clear xS
            have y0 := (xB.cell hpw).trans e0
            have y1 := (xB.cell hpw).trans e1
            have y2 := (xB.cell hpw).trans e2
            have y3 := (xB.cell hpw).trans e3
            have yL : p < W2.heap.size := Nat.lt_of_lt_of_le hpw xB.size
            clear xB
            have HSx : Hid (∀ x, Below W2.heap.size W2 x → (x.cell? ⟨wr.heap.size, 0, none⟩ = some (.bool q.p.s) ∧ x.cell? ⟨wr.heap.size, 1, none⟩ = some (.int .i64 q.p.H.toInt) ∧ x.cell? ⟨wr.heap.size, 2, none⟩ = some (.int .i64 q.p.L.toInt) ∧ x.cell? ⟨wr.heap.size, 3, none⟩ = some (.int .i64 q.p.b) ∧ x.cell? ⟨wr.heap.size, 4, none⟩ = some (.int .i64 q.n) ∧ x.cell? ⟨p, o + J * 5, none⟩ = some (.bool r.p.s) ∧ x.cell? ⟨p, o + J * 5 + 1, none⟩ = some (.int .i64 r.p.H.toInt) ∧ x.cell? ⟨p, o + J * 5 + 2, none⟩ = some (.int .i64 r.p.L.toInt) ∧ x.cell? ⟨p, o + J * 5 + 3, none⟩ = some (.int .i64 r.p.b) ∧ Below W2.heap.size W2 x)) := hidP fun x h =>
              ⟨(h.cell xL).trans x0, (h.cell xL).trans x1, (h.cell xL).trans x2, (h.cell xL).trans x3, (h.cell xL).trans x4, (h.cell yL).trans y0, (h.cell yL).trans y1, (h.cell yL).trans y2, (h.cell yL).trans y3, h⟩
            refine wp_region_held_drew (S := (fun x => x.cell? ⟨wr.heap.size, 0, none⟩ = some (.bool q.p.s) ∧ x.cell? ⟨wr.heap.size, 1, none⟩ = some (.int .i64 q.p.H.toInt) ∧ x.cell? ⟨wr.heap.size, 2, none⟩ = some (.int .i64 q.p.L.toInt) ∧ x.cell? ⟨wr.heap.size, 3, none⟩ = some (.int .i64 q.p.b) ∧ x.cell? ⟨wr.heap.size, 4, none⟩ = some (.int .i64 q.n) ∧ x.cell? ⟨p, o + J * 5, none⟩ = some (.bool r.p.s) ∧ x.cell? ⟨p, o + J * 5 + 1, none⟩ = some (.int .i64 r.p.H.toInt) ∧ x.cell? ⟨p, o + J * 5 + 2, none⟩ = some (.int .i64 r.p.L.toInt) ∧ x.cell? ⟨p, o + J * 5 + 3, none⟩ = some (.int .i64 r.p.b) ∧ Below W2.heap.size W2 x)) (by kernel_rfl) ?_ (fun hHeld => ?_)
            · try dsimp only
              exact HSx.out _ ((Below.refl _ _).drew)
            refine tk 0 12 rfl ?_; simp only [pa]
            refine wpAnyH_ready (rs := [1]) (by kernel_rfl) (by simp) ?_
            refine AllReadyH.cons rfl (fun K hK => ?_) AllReadyH.nil
            go_simp
            go_wp2_with (first | (go_at_call 114; refine (HP1.out _).mono ?_; rintro e w2 ⟨rfl, hb2⟩; have b2 := (hHeld.2.2.2.2.2.2.2.2.2).trans (hb2.mono (hHeld.2.2.2.2.2.2.2.2.2).size)))
            refine hK.out _ _ ?_ (fun hHeld => ?_)
            · try dsimp only
              exact HSx.out _ b2
            clear hK K
            refine tk 2 14 rfl ?_; simp only [pa]
            refine tk 3 15 rfl ?_; simp only [pa]
            refine tk 4 16 rfl ?_; simp only [pa]
            refine tk 5 17 rfl ?_; simp only [pa]
            refine tk 6 18 rfl ?_; simp only [pa]
            refine tk 7 19 rfl ?_; simp only [pa]
            refine tk 8 20 rfl ?_; simp only [pa]
            refine tk 9 21 rfl ?_; simp only [pa]
            refine tk 10 22 rfl ?_; simp only [pa]
            refine tk 11 23 rfl ?_; simp only [pa]
            refine tk 12 24 rfl ?_; simp only [pa]
            refine tk 13 25 rfl ?_; simp only [pa]
            refine tk 14 26 rfl ?_; simp only [pa]
            refine wpAnyH_ready (rs := [15]) (by kernel_rfl) (by simp) ?_
            refine AllReadyH.cons rfl (fun K hK => ?_) AllReadyH.nil
            go_simp
            go_wp2_with (first | (go_at_call 115; refine (HFo.out _).mono ?_; rintro e w3 ⟨rfl, hb3⟩; have b3 := (hHeld.2.2.2.2.2.2.2.2.2).trans (hb3.mono (hHeld.2.2.2.2.2.2.2.2.2).size)))
            refine hK.out _ _ ?_ (fun hHeld => ?_)
            · try dsimp only
              exact HSx.out _ b3
            clear hK K
            refine tk 16 28 rfl ?_; simp only [pa]
            refine tk 17 29 rfl ?_; simp only [pa]
            refine tk 18 30 rfl ?_; simp only [pa]
            have HE := hidP (hHeld.2.2.2.2.2.2.2.2.2)
            refine wpAnyH_done (by kernel_rfl) ?_ _
            clear hHeld
            go_wp2_with fail
            go_ret
            exact ⟨ret_b HF.out.symm, below_box HBel.out HBel.out.size HXB.out HE.out⟩
          · rw [hfo] at HPo2 HFo
            have HF : Hid (poolsF none ps = poolsF (some q.p) (ps.drop (k + 1))) := hidP (by rw [HPo2.out]; rfl)
            clear HPo2
            go_wp2_with fail
            obtain ⟨x0, x1, x2, x3, x4⟩ := boxPl (q := q) wr 68
            have xB := alloc_below wr (.cells #[.bool q.p.s, .int .i64 q.p.H.toInt, .int .i64 q.p.L.toInt, .int .i64 q.p.b, .int .i64 q.n] 68)
            have xL := alloc_lt wr (.cells #[.bool q.p.s, .int .i64 q.p.H.toInt, .int .i64 q.p.L.toInt, .int .i64 q.p.b, .int .i64 q.n] 68)
            have xS : (wr.alloc (.cells #[.bool q.p.s, .int .i64 q.p.H.toInt, .int .i64 q.p.L.toInt, .int .i64 q.p.b, .int .i64 q.n] 68)).heap.size = wr.heap.size + 1 := by simp
            generalize wr.alloc (.cells #[.bool q.p.s, .int .i64 q.p.H.toInt, .int .i64 q.p.L.toInt, .int .i64 q.p.b, .int .i64 q.n] 68) = W2 at *
            have HXB := hidP xB
            clear xS
            have y0 := (xB.cell hpw).trans e0
            have y1 := (xB.cell hpw).trans e1
            have y2 := (xB.cell hpw).trans e2
            have y3 := (xB.cell hpw).trans e3
            have yL : p < W2.heap.size := Nat.lt_of_lt_of_le hpw xB.size
            clear xB
            have HSx : Hid (∀ x, Below W2.heap.size W2 x → (x.cell? ⟨wr.heap.size, 0, none⟩ = some (.bool q.p.s) ∧ x.cell? ⟨wr.heap.size, 1, none⟩ = some (.int .i64 q.p.H.toInt) ∧ x.cell? ⟨wr.heap.size, 2, none⟩ = some (.int .i64 q.p.L.toInt) ∧ x.cell? ⟨wr.heap.size, 3, none⟩ = some (.int .i64 q.p.b) ∧ x.cell? ⟨wr.heap.size, 4, none⟩ = some (.int .i64 q.n) ∧ x.cell? ⟨p, o + J * 5, none⟩ = some (.bool r.p.s) ∧ x.cell? ⟨p, o + J * 5 + 1, none⟩ = some (.int .i64 r.p.H.toInt) ∧ x.cell? ⟨p, o + J * 5 + 2, none⟩ = some (.int .i64 r.p.L.toInt) ∧ x.cell? ⟨p, o + J * 5 + 3, none⟩ = some (.int .i64 r.p.b) ∧ Below W2.heap.size W2 x)) := hidP fun x h =>
              ⟨(h.cell xL).trans x0, (h.cell xL).trans x1, (h.cell xL).trans x2, (h.cell xL).trans x3, (h.cell xL).trans x4, (h.cell yL).trans y0, (h.cell yL).trans y1, (h.cell yL).trans y2, (h.cell yL).trans y3, h⟩
            refine wp_region_held_drew (S := (fun x => x.cell? ⟨wr.heap.size, 0, none⟩ = some (.bool q.p.s) ∧ x.cell? ⟨wr.heap.size, 1, none⟩ = some (.int .i64 q.p.H.toInt) ∧ x.cell? ⟨wr.heap.size, 2, none⟩ = some (.int .i64 q.p.L.toInt) ∧ x.cell? ⟨wr.heap.size, 3, none⟩ = some (.int .i64 q.p.b) ∧ x.cell? ⟨wr.heap.size, 4, none⟩ = some (.int .i64 q.n) ∧ x.cell? ⟨p, o + J * 5, none⟩ = some (.bool r.p.s) ∧ x.cell? ⟨p, o + J * 5 + 1, none⟩ = some (.int .i64 r.p.H.toInt) ∧ x.cell? ⟨p, o + J * 5 + 2, none⟩ = some (.int .i64 r.p.L.toInt) ∧ x.cell? ⟨p, o + J * 5 + 3, none⟩ = some (.int .i64 r.p.b) ∧ Below W2.heap.size W2 x)) (by kernel_rfl) ?_ (fun hHeld => ?_)
            · try dsimp only
              exact HSx.out _ ((Below.refl _ _).drew)
            refine tk 0 12 rfl ?_; simp only [pa]
            refine wpAnyH_ready (rs := [1]) (by kernel_rfl) (by simp) ?_
            refine AllReadyH.cons rfl (fun K hK => ?_) AllReadyH.nil
            go_simp
            go_wp2_with (first | (go_at_call 114; refine (HP1.out _).mono ?_; rintro e w2 ⟨rfl, hb2⟩; have b2 := (hHeld.2.2.2.2.2.2.2.2.2).trans (hb2.mono (hHeld.2.2.2.2.2.2.2.2.2).size)))
            refine hK.out _ _ ?_ (fun hHeld => ?_)
            · try dsimp only
              exact HSx.out _ b2
            clear hK K
            refine tk 2 14 rfl ?_; simp only [pa]
            refine tk 3 15 rfl ?_; simp only [pa]
            refine tk 4 16 rfl ?_; simp only [pa]
            refine tk 5 17 rfl ?_; simp only [pa]
            refine tk 6 18 rfl ?_; simp only [pa]
            refine tk 7 19 rfl ?_; simp only [pa]
            refine tk 8 20 rfl ?_; simp only [pa]
            refine tk 9 21 rfl ?_; simp only [pa]
            refine tk 10 22 rfl ?_; simp only [pa]
            refine tk 11 23 rfl ?_; simp only [pa]
            refine tk 12 24 rfl ?_; simp only [pa]
            refine tk 13 25 rfl ?_; simp only [pa]
            refine tk 14 26 rfl ?_; simp only [pa]
            refine wpAnyH_ready (rs := [15]) (by kernel_rfl) (by simp) ?_
            refine AllReadyH.cons rfl (fun K hK => ?_) AllReadyH.nil
            go_simp
            go_wp2_with (first | (go_at_call 115; refine (HFo.out _).mono ?_; rintro e w3 ⟨rfl, hb3⟩; have b3 := (hHeld.2.2.2.2.2.2.2.2.2).trans (hb3.mono (hHeld.2.2.2.2.2.2.2.2.2).size)))
            refine hK.out _ _ ?_ (fun hHeld => ?_)
            · try dsimp only
              exact HSx.out _ b3
            clear hK K
            refine tk 16 28 rfl ?_; simp only [pa]
            refine tk 17 29 rfl ?_; simp only [pa]
            refine tk 18 30 rfl ?_; simp only [pa]
            have HE := hidP (hHeld.2.2.2.2.2.2.2.2.2)
            refine wpAnyH_done (by kernel_rfl) ?_ _
            clear hHeld
            go_wp2_with fail
            go_roundw
            case rel => exact ⟨k + 1, by omega, by go_num, by rw [HF.out, HNx.out], (fun r h => by rw [HNx.out] at h; cases h; exact HOk.out), below_box HBel.out HBel.out.size HXB.out HE.out⟩
            case measure => simp [intOf]; omega
    · have HF : Hid (poolsF none ps = true) := by
        rw [List.drop_of_length_le (by have := HN.out; omega)] at hpo
        exact hidP hpo
      have HBel := hidP hbel
      clear hbel hpo hpr
      go_wp2_with fail
      go_ret
      exact ⟨ret_b HF.out.symm, HBel.out⟩

end Go.Proofs.YtngcbhbcocnbeaaGreat
namespace Go.Proofs.YtngcbhbcocnbeaaGreat
open Go.RowKit

theorem box2 {u v : Value} (w : World) (t : TypeId) : (w.alloc (.cells #[u, v] t)).cell? ⟨w.heap.size, 0, none⟩ = some u ∧ (w.alloc (.cells #[u, v] t)).cell? ⟨w.heap.size, 1, none⟩ = some v := by
  exact ⟨by simp [go_sem], by simp [go_sem]⟩

set_option maxRecDepth 10000 in
set_option maxHeartbeats 4000000 in
theorem blocksOk_any (ap : Option Addr) (np cp : Nat) (ab : Option Addr) (nb cb : Nat) (ps : List Pl) (bs : List Bk) (w : World) (hnp : np = ps.length) (hnb : nb = bs.length) (hP : RowG KPl w ap ps) (hK : RowG KBk w ab bs) (hlp : np ≤ 9000000000) (hl : nb ≤ 9000000000) (hst : ∀ q ∈ bs, q.t.size ≤ 9223372036854775807) :
    Calls Tryz.prog 95 #[.agg #[.slice ap np cp, .slice ab nb cb]] w fun e w' => e = .returned (.bool (blocksI ps none bs)) ∧ Below w.heap.size w w' := by
  have HBP := hidP hP
  have HB := hidP hK
  have HNP := hidP hnp
  have HN := hidP hnb
  have HST := hidP hst
  clear hP hK hnp hnb hst
  go_enter Tryz.func95, Tryz.ntmps95
  go_wp2_with fail
  obtain ⟨u0, u1⟩ := box2 (u := .slice ap np cp) (v := .slice ab nb cb) w 40
  have uB := alloc_below w (.cells #[.slice ap np cp, .slice ab nb cb] 40)
  have uL := alloc_lt w (.cells #[.slice ap np cp, .slice ab nb cb] 40)
  have uS : (w.alloc (.cells #[.slice ap np cp, .slice ab nb cb] 40)).heap.size = w.heap.size + 1 := by simp
  generalize w.alloc (.cells #[.slice ap np cp, .slice ab nb cb] 40) = W1 at *
  have HUB := hidP uB
  have HP1 := hidP (HBP.out.later uB)
  have HB1 := hidP (HB.out.later uB)
  clear uB uS HBP HB
  go_loopw [3, 4, 8] (fun _ _ t8 wr => ∃ k : Nat, k ≤ nb ∧ t8 = .int .i64 k ∧ blocksI ps none bs = blocksI ps (prvB bs k) (bs.drop k) ∧ (∀ r, prvB bs k = some r → carB ps r = true) ∧ Below W1.heap.size W1 wr) (fun _ _ t8 _ => nb - (intOf t8).toNat)
  case atStart => exact ⟨0, Nat.zero_le _, rfl, rfl, (fun r h => by cases h), Below.refl _ _⟩
  case round =>
    obtain ⟨k, hk, rfl, hpo, hpr, hbel⟩ := hrel
    by_cases hlt : k < nb
    · obtain ⟨p, o, q, rfl, hp, hq, c0, c1, c2, c3, c4⟩ := rowBk HB1.out k (by rw [← HN.out]; exact hlt)
      have d0 := (hbel.cell hp).trans c0
      have d1 := (hbel.cell hp).trans c1
      have d2 := (hbel.cell hp).trans c2
      have d3 := (hbel.cell hp).trans c3
      have d4 := (hbel.cell hp).trans c4
      have v0 := (hbel.cell uL).trans u0
      have v1 := (hbel.cell uL).trans u1
      have hpw : p < wr.heap.size := Nat.lt_of_lt_of_le hp hbel.size
      have huw : w.heap.size < wr.heap.size := Nat.lt_of_lt_of_le uL hbel.size
      rw [drop_at hq] at hpo
      have hpo' : blocksI ps none bs = (((ownB q.t && carB ps q.p) && (match prvB bs k with | none => true | some r => folB r q.p)) && blocksI ps (some q.p) (bs.drop (k + 1))) := hpo
      have HNx := hidP (prvB_next hq)
      have HPo := hidP hpo'
      have HPr := hidP hpr
      have HBel := hidP hbel
      have HOw := hidP (fun w => iOwnerOk_any q.t w (HST.out q (List.mem_of_getElem? hq)))
      have HCa := hidP (fun W h => isCarved_any q.p ap np cp ps W HNP.out (HP1.out.later h) hlp)
      clear c0 c1 c2 c3 c4 hq hpo hpo' hpr hbel
      cases hok : ownB q.t
      · rw [hok] at HOw HPo
        have HF : Hid (blocksI ps none bs = false) := hidP (by rw [HPo.out]; rfl)
        clear HPo HPr HNx
        go_wp2_with fail
        obtain ⟨x0, x1, x2, x3, x4⟩ := boxBk (q := q) wr 71
        have xB := alloc_below wr (.cells #[.bool q.p.s, .int .i64 q.p.H.toInt, .int .i64 q.p.L.toInt, .int .i64 q.p.b, .string q.t] 71)
        have xL := alloc_lt wr (.cells #[.bool q.p.s, .int .i64 q.p.H.toInt, .int .i64 q.p.L.toInt, .int .i64 q.p.b, .string q.t] 71)
        have xS : (wr.alloc (.cells #[.bool q.p.s, .int .i64 q.p.H.toInt, .int .i64 q.p.L.toInt, .int .i64 q.p.b, .string q.t] 71)).heap.size = wr.heap.size + 1 := by simp
        generalize wr.alloc (.cells #[.bool q.p.s, .int .i64 q.p.H.toInt, .int .i64 q.p.L.toInt, .int .i64 q.p.b, .string q.t] 71) = W2 at *
        have HXB := hidP xB
        clear xS
        have r0 := (xB.cell huw).trans v0
        have r1 := (xB.cell huw).trans v1
        have rL : w.heap.size < W2.heap.size := Nat.lt_of_lt_of_le huw xB.size
        clear xB
        have HSx : Hid (∀ x, Below W2.heap.size W2 x → (x.cell? ⟨wr.heap.size, 0, none⟩ = some (.bool q.p.s) ∧ x.cell? ⟨wr.heap.size, 1, none⟩ = some (.int .i64 q.p.H.toInt) ∧ x.cell? ⟨wr.heap.size, 2, none⟩ = some (.int .i64 q.p.L.toInt) ∧ x.cell? ⟨wr.heap.size, 3, none⟩ = some (.int .i64 q.p.b) ∧ x.cell? ⟨wr.heap.size, 4, none⟩ = some (.string q.t) ∧ x.cell? ⟨w.heap.size, 0, none⟩ = some (.slice ap np cp) ∧ x.cell? ⟨w.heap.size, 1, none⟩ = some (.slice (some ⟨p, o, none⟩) nb cb) ∧ Below W2.heap.size W2 x)) := hidP fun x h =>
          ⟨(h.cell xL).trans x0, (h.cell xL).trans x1, (h.cell xL).trans x2, (h.cell xL).trans x3, (h.cell xL).trans x4, (h.cell rL).trans r0, (h.cell rL).trans r1, h⟩
        refine wp_region_held_drew (S := (fun x => x.cell? ⟨wr.heap.size, 0, none⟩ = some (.bool q.p.s) ∧ x.cell? ⟨wr.heap.size, 1, none⟩ = some (.int .i64 q.p.H.toInt) ∧ x.cell? ⟨wr.heap.size, 2, none⟩ = some (.int .i64 q.p.L.toInt) ∧ x.cell? ⟨wr.heap.size, 3, none⟩ = some (.int .i64 q.p.b) ∧ x.cell? ⟨wr.heap.size, 4, none⟩ = some (.string q.t) ∧ x.cell? ⟨w.heap.size, 0, none⟩ = some (.slice ap np cp) ∧ x.cell? ⟨w.heap.size, 1, none⟩ = some (.slice (some ⟨p, o, none⟩) nb cb) ∧ Below W2.heap.size W2 x)) (by kernel_rfl) ?_ (fun hHeld => ?_)
        · try dsimp only
          exact HSx.out _ ((Below.refl _ _).drew)
        refine tk 0 13 rfl ?_; simp only [pa]
        refine tk 1 14 rfl ?_; simp only [pa]
        refine wpAnyH_ready (rs := [2]) (by kernel_rfl) (by simp) ?_
        refine AllReadyH.cons rfl (fun K hK => ?_) AllReadyH.nil
        go_simp
        go_wp2_with (first | (go_at_call 116; refine (HOw.out _).mono ?_; rintro e w' ⟨rfl, rfl⟩))
        refine hK.out _ _ ?_ (fun hHeld => ?_)
        · try dsimp only
          exact HSx.out _ (hHeld.2.2.2.2.2.2.2)
        clear hK K
        refine tk 3 16 rfl ?_; simp only [pa]
        refine tk 4 17 rfl ?_; simp only [pa]
        refine sk 5 18 rfl ?_; simp only [pa]
        refine sk 6 19 rfl ?_; simp only [pa]
        refine sk 7 20 rfl ?_; simp only [pa]
        refine sk 8 21 rfl ?_; simp only [pa]
        refine sk 9 22 rfl ?_; simp only [pa]
        refine sk 10 23 rfl ?_; simp only [pa]
        refine tk 11 24 rfl ?_; simp only [pa]
        refine tk 12 25 rfl ?_; simp only [pa]
        refine sk 13 26 rfl ?_; simp only [pa]
        refine sk 14 27 rfl ?_; simp only [pa]
        refine sk 15 28 rfl ?_; simp only [pa]
        refine sk 16 29 rfl ?_; simp only [pa]
        refine sk 17 30 rfl ?_; simp only [pa]
        refine sk 18 31 rfl ?_; simp only [pa]
        refine sk 19 32 rfl ?_; simp only [pa]
        refine sk 20 33 rfl ?_; simp only [pa]
        refine sk 21 34 rfl ?_; simp only [pa]
        refine sk 22 35 rfl ?_; simp only [pa]
        refine sk 23 36 rfl ?_; simp only [pa]
        refine sk 24 37 rfl ?_; simp only [pa]
        refine sk 25 38 rfl ?_; simp only [pa]
        refine sk 26 39 rfl ?_; simp only [pa]
        refine sk 27 40 rfl ?_; simp only [pa]
        refine tk 28 41 rfl ?_; simp only [pa]
        have HE := hidP (hHeld.2.2.2.2.2.2.2)
        refine wpAnyH_done (by kernel_rfl) ?_ _
        clear hHeld
        go_wp2_with fail
        go_ret
        exact ⟨ret_b HF.out.symm, HUB.out.trans ((below_box HBel.out HBel.out.size HXB.out HE.out).mono HUB.out.size)⟩
      · rw [hok] at HOw HPo
        cases hca : carB ps q.p
        · rw [hca] at HCa HPo
          have HF : Hid (blocksI ps none bs = false) := hidP (by rw [HPo.out]; rfl)
          clear HPo HPr HNx
          go_wp2_with fail
          obtain ⟨x0, x1, x2, x3, x4⟩ := boxBk (q := q) wr 71
          have xB := alloc_below wr (.cells #[.bool q.p.s, .int .i64 q.p.H.toInt, .int .i64 q.p.L.toInt, .int .i64 q.p.b, .string q.t] 71)
          have xL := alloc_lt wr (.cells #[.bool q.p.s, .int .i64 q.p.H.toInt, .int .i64 q.p.L.toInt, .int .i64 q.p.b, .string q.t] 71)
          have xS : (wr.alloc (.cells #[.bool q.p.s, .int .i64 q.p.H.toInt, .int .i64 q.p.L.toInt, .int .i64 q.p.b, .string q.t] 71)).heap.size = wr.heap.size + 1 := by simp
          generalize wr.alloc (.cells #[.bool q.p.s, .int .i64 q.p.H.toInt, .int .i64 q.p.L.toInt, .int .i64 q.p.b, .string q.t] 71) = W2 at *
          have HXB := hidP xB
          clear xS
          have r0 := (xB.cell huw).trans v0
          have r1 := (xB.cell huw).trans v1
          have rL : w.heap.size < W2.heap.size := Nat.lt_of_lt_of_le huw xB.size
          clear xB
          have HSx : Hid (∀ x, Below W2.heap.size W2 x → (x.cell? ⟨wr.heap.size, 0, none⟩ = some (.bool q.p.s) ∧ x.cell? ⟨wr.heap.size, 1, none⟩ = some (.int .i64 q.p.H.toInt) ∧ x.cell? ⟨wr.heap.size, 2, none⟩ = some (.int .i64 q.p.L.toInt) ∧ x.cell? ⟨wr.heap.size, 3, none⟩ = some (.int .i64 q.p.b) ∧ x.cell? ⟨wr.heap.size, 4, none⟩ = some (.string q.t) ∧ x.cell? ⟨w.heap.size, 0, none⟩ = some (.slice ap np cp) ∧ x.cell? ⟨w.heap.size, 1, none⟩ = some (.slice (some ⟨p, o, none⟩) nb cb) ∧ Below W2.heap.size W2 x)) := hidP fun x h =>
            ⟨(h.cell xL).trans x0, (h.cell xL).trans x1, (h.cell xL).trans x2, (h.cell xL).trans x3, (h.cell xL).trans x4, (h.cell rL).trans r0, (h.cell rL).trans r1, h⟩
          refine wp_region_held_drew (S := (fun x => x.cell? ⟨wr.heap.size, 0, none⟩ = some (.bool q.p.s) ∧ x.cell? ⟨wr.heap.size, 1, none⟩ = some (.int .i64 q.p.H.toInt) ∧ x.cell? ⟨wr.heap.size, 2, none⟩ = some (.int .i64 q.p.L.toInt) ∧ x.cell? ⟨wr.heap.size, 3, none⟩ = some (.int .i64 q.p.b) ∧ x.cell? ⟨wr.heap.size, 4, none⟩ = some (.string q.t) ∧ x.cell? ⟨w.heap.size, 0, none⟩ = some (.slice ap np cp) ∧ x.cell? ⟨w.heap.size, 1, none⟩ = some (.slice (some ⟨p, o, none⟩) nb cb) ∧ Below W2.heap.size W2 x)) (by kernel_rfl) ?_ (fun hHeld => ?_)
          · try dsimp only
            exact HSx.out _ ((Below.refl _ _).drew)
          refine tk 0 13 rfl ?_; simp only [pa]
          refine tk 1 14 rfl ?_; simp only [pa]
          refine wpAnyH_ready (rs := [2]) (by kernel_rfl) (by simp) ?_
          refine AllReadyH.cons rfl (fun K hK => ?_) AllReadyH.nil
          go_simp
          go_wp2_with (first | (go_at_call 116; refine (HOw.out _).mono ?_; rintro e w' ⟨rfl, rfl⟩))
          refine hK.out _ _ ?_ (fun hHeld => ?_)
          · try dsimp only
            exact HSx.out _ (hHeld.2.2.2.2.2.2.2)
          clear hK K
          refine tk 3 16 rfl ?_; simp only [pa]
          refine tk 4 17 rfl ?_; simp only [pa]
          refine tk 5 18 rfl ?_; simp only [pa]
          refine tk 6 19 rfl ?_; simp only [pa]
          refine tk 7 20 rfl ?_; simp only [pa]
          refine tk 8 21 rfl ?_; simp only [pa]
          refine wpAnyH_ready (rs := [9]) (by kernel_rfl) (by simp) ?_
          refine AllReadyH.cons rfl (fun K hK => ?_) AllReadyH.nil
          go_simp
          go_wp2_with (first | (go_at_call 117; refine (HCa.out _ (below_box HBel.out HBel.out.size HXB.out (hHeld.2.2.2.2.2.2.2))).mono ?_; rintro e w2 ⟨rfl, hb2⟩; have b2 := (hHeld.2.2.2.2.2.2.2).trans (hb2.mono (hHeld.2.2.2.2.2.2.2).size)))
          refine hK.out _ _ ?_ (fun hHeld => ?_)
          · try dsimp only
            exact HSx.out _ b2
          clear hK K
          refine tk 10 23 rfl ?_; simp only [pa]
          refine tk 11 24 rfl ?_; simp only [pa]
          refine tk 12 25 rfl ?_; simp only [pa]
          refine sk 13 26 rfl ?_; simp only [pa]
          refine sk 14 27 rfl ?_; simp only [pa]
          refine sk 15 28 rfl ?_; simp only [pa]
          refine sk 16 29 rfl ?_; simp only [pa]
          refine sk 17 30 rfl ?_; simp only [pa]
          refine sk 18 31 rfl ?_; simp only [pa]
          refine sk 19 32 rfl ?_; simp only [pa]
          refine sk 20 33 rfl ?_; simp only [pa]
          refine sk 21 34 rfl ?_; simp only [pa]
          refine sk 22 35 rfl ?_; simp only [pa]
          refine sk 23 36 rfl ?_; simp only [pa]
          refine sk 24 37 rfl ?_; simp only [pa]
          refine sk 25 38 rfl ?_; simp only [pa]
          refine sk 26 39 rfl ?_; simp only [pa]
          refine sk 27 40 rfl ?_; simp only [pa]
          refine tk 28 41 rfl ?_; simp only [pa]
          have HE := hidP (hHeld.2.2.2.2.2.2.2)
          refine wpAnyH_done (by kernel_rfl) ?_ _
          clear hHeld
          go_wp2_with fail
          go_ret
          exact ⟨ret_b HF.out.symm, HUB.out.trans ((below_box HBel.out HBel.out.size HXB.out HE.out).mono HUB.out.size)⟩
        · rw [hca] at HCa HPo
          have HOk := hidP hca
          have HPk := hidP (carB_pk hca)
          by_cases hk0 : k = 0
          · have g0 : decide ((0 : Int) < (k : Int)) = false := decide_eq_false (by omega)
            have g1 : decide (0 < k) = false := decide_eq_false (by omega)
            have HF : Hid (blocksI ps none bs = blocksI ps (some q.p) (bs.drop (k + 1))) := hidP (by rw [HPo.out, hk0]; rfl)
            clear HPo HPr hk0
            go_wp2_with fail
            obtain ⟨x0, x1, x2, x3, x4⟩ := boxBk (q := q) wr 71
            have xB := alloc_below wr (.cells #[.bool q.p.s, .int .i64 q.p.H.toInt, .int .i64 q.p.L.toInt, .int .i64 q.p.b, .string q.t] 71)
            have xL := alloc_lt wr (.cells #[.bool q.p.s, .int .i64 q.p.H.toInt, .int .i64 q.p.L.toInt, .int .i64 q.p.b, .string q.t] 71)
            have xS : (wr.alloc (.cells #[.bool q.p.s, .int .i64 q.p.H.toInt, .int .i64 q.p.L.toInt, .int .i64 q.p.b, .string q.t] 71)).heap.size = wr.heap.size + 1 := by simp
            generalize wr.alloc (.cells #[.bool q.p.s, .int .i64 q.p.H.toInt, .int .i64 q.p.L.toInt, .int .i64 q.p.b, .string q.t] 71) = W2 at *
            have HXB := hidP xB
            clear xS
            have r0 := (xB.cell huw).trans v0
            have r1 := (xB.cell huw).trans v1
            have rL : w.heap.size < W2.heap.size := Nat.lt_of_lt_of_le huw xB.size
            clear xB
            have HSx : Hid (∀ x, Below W2.heap.size W2 x → (x.cell? ⟨wr.heap.size, 0, none⟩ = some (.bool q.p.s) ∧ x.cell? ⟨wr.heap.size, 1, none⟩ = some (.int .i64 q.p.H.toInt) ∧ x.cell? ⟨wr.heap.size, 2, none⟩ = some (.int .i64 q.p.L.toInt) ∧ x.cell? ⟨wr.heap.size, 3, none⟩ = some (.int .i64 q.p.b) ∧ x.cell? ⟨wr.heap.size, 4, none⟩ = some (.string q.t) ∧ x.cell? ⟨w.heap.size, 0, none⟩ = some (.slice ap np cp) ∧ x.cell? ⟨w.heap.size, 1, none⟩ = some (.slice (some ⟨p, o, none⟩) nb cb) ∧ Below W2.heap.size W2 x)) := hidP fun x h =>
              ⟨(h.cell xL).trans x0, (h.cell xL).trans x1, (h.cell xL).trans x2, (h.cell xL).trans x3, (h.cell xL).trans x4, (h.cell rL).trans r0, (h.cell rL).trans r1, h⟩
            refine wp_region_held_drew (S := (fun x => x.cell? ⟨wr.heap.size, 0, none⟩ = some (.bool q.p.s) ∧ x.cell? ⟨wr.heap.size, 1, none⟩ = some (.int .i64 q.p.H.toInt) ∧ x.cell? ⟨wr.heap.size, 2, none⟩ = some (.int .i64 q.p.L.toInt) ∧ x.cell? ⟨wr.heap.size, 3, none⟩ = some (.int .i64 q.p.b) ∧ x.cell? ⟨wr.heap.size, 4, none⟩ = some (.string q.t) ∧ x.cell? ⟨w.heap.size, 0, none⟩ = some (.slice ap np cp) ∧ x.cell? ⟨w.heap.size, 1, none⟩ = some (.slice (some ⟨p, o, none⟩) nb cb) ∧ Below W2.heap.size W2 x)) (by kernel_rfl) ?_ (fun hHeld => ?_)
            · try dsimp only
              exact HSx.out _ ((Below.refl _ _).drew)
            refine tk 0 13 rfl ?_; simp only [pa]
            refine tk 1 14 rfl ?_; simp only [pa]
            refine wpAnyH_ready (rs := [2]) (by kernel_rfl) (by simp) ?_
            refine AllReadyH.cons rfl (fun K hK => ?_) AllReadyH.nil
            go_simp
            go_wp2_with (first | (go_at_call 116; refine (HOw.out _).mono ?_; rintro e w' ⟨rfl, rfl⟩))
            refine hK.out _ _ ?_ (fun hHeld => ?_)
            · try dsimp only
              exact HSx.out _ (hHeld.2.2.2.2.2.2.2)
            clear hK K
            refine tk 3 16 rfl ?_; simp only [pa]
            refine tk 4 17 rfl ?_; simp only [pa]
            refine tk 5 18 rfl ?_; simp only [pa]
            refine tk 6 19 rfl ?_; simp only [pa]
            refine tk 7 20 rfl ?_; simp only [pa]
            refine tk 8 21 rfl ?_; simp only [pa]
            refine wpAnyH_ready (rs := [9]) (by kernel_rfl) (by simp) ?_
            refine AllReadyH.cons rfl (fun K hK => ?_) AllReadyH.nil
            go_simp
            go_wp2_with (first | (go_at_call 117; refine (HCa.out _ (below_box HBel.out HBel.out.size HXB.out (hHeld.2.2.2.2.2.2.2))).mono ?_; rintro e w2 ⟨rfl, hb2⟩; have b2 := (hHeld.2.2.2.2.2.2.2).trans (hb2.mono (hHeld.2.2.2.2.2.2.2).size)))
            refine hK.out _ _ ?_ (fun hHeld => ?_)
            · try dsimp only
              exact HSx.out _ b2
            clear hK K
            refine tk 10 23 rfl ?_; simp only [pa]
            refine tk 11 24 rfl ?_; simp only [pa]
            refine tk 12 25 rfl ?_; simp only [pa]
            refine tk 13 26 rfl ?_; simp only [pa]
            refine tk 14 27 rfl ?_; simp only [pa]
            refine tk 15 28 rfl ?_; simp only [pa]
            refine sk 16 29 rfl ?_; simp only [pa]
            refine sk 17 30 rfl ?_; simp only [pa]
            refine sk 18 31 rfl ?_; simp only [pa]
            refine sk 19 32 rfl ?_; simp only [pa]
            refine sk 20 33 rfl ?_; simp only [pa]
            refine sk 21 34 rfl ?_; simp only [pa]
            refine sk 22 35 rfl ?_; simp only [pa]
            refine sk 23 36 rfl ?_; simp only [pa]
            refine sk 24 37 rfl ?_; simp only [pa]
            refine sk 25 38 rfl ?_; simp only [pa]
            refine sk 26 39 rfl ?_; simp only [pa]
            refine tk 27 40 rfl ?_; simp only [pa]
            refine tk 28 41 rfl ?_; simp only [pa]
            have HE := hidP (hHeld.2.2.2.2.2.2.2)
            refine wpAnyH_done (by kernel_rfl) ?_ _
            clear hHeld
            go_wp2_with fail
            go_roundw
            case rel => exact ⟨k + 1, by omega, by go_num, by rw [HF.out, HNx.out], (fun r h => by rw [HNx.out] at h; cases h; exact HOk.out), below_box HBel.out HBel.out.size HXB.out HE.out⟩
            case measure => simp [intOf]; omega
          · have g0 : decide ((0 : Int) < (k : Int)) = true := decide_eq_true (by omega)
            have g1 : decide (0 < k) = true := decide_eq_true (by omega)
            obtain ⟨J, hJ⟩ : ∃ J, J = k - 1 := ⟨_, rfl⟩
            have hkJ : k = J + 1 := by omega
            have hJi : (k : Int) - 1 = (J : Int) := by omega
            have hJn : J < nb := by omega
            have wJ : IntKind.i64.wrap (J : Int) = (J : Int) := by rw [IntKind.wrap_i64]; omega
            have hJ0 : (0 : Int) ≤ (J : Int) := by omega
            have hJ1 : (J : Int) < (nb : Int) := by omega
            obtain ⟨p', o', r, he, hp', hr, c0, c1, c2, c3, c4⟩ := rowBk HB1.out J (by rw [← HN.out]; exact hJn)
            simp only [Option.some.injEq, Addr.mk.injEq, and_true] at he
            obtain ⟨rfl, rfl⟩ := he
            have hprv : prvB bs k = some r.p := by rw [hkJ]; exact prvB_next hr
            have hrca : carB ps r.p = true := HPr.out _ hprv
            have HPo2 : Hid (blocksI ps none bs = (((true && true) && folB r.p q.p) && blocksI ps (some q.p) (bs.drop (k + 1)))) := hidP (by rw [HPo.out, hprv])
            have HFo := hidP (follows_any r.p q.p (carB_pk hrca) HPk.out)
            have e0 := (HBel.out.cell hp').trans c0
            have e1 := (HBel.out.cell hp').trans c1
            have e2 := (HBel.out.cell hp').trans c2
            have e3 := (HBel.out.cell hp').trans c3
            clear c0 c1 c2 c3 c4 hr hprv hrca hJ hkJ hk0 HPo HPr
            cases hfo : folB r.p q.p
            · rw [hfo] at HPo2 HFo
              have HF : Hid (blocksI ps none bs = false) := hidP (by rw [HPo2.out]; rfl)
              clear HPo2
              go_wp2_with fail
              obtain ⟨x0, x1, x2, x3, x4⟩ := boxBk (q := q) wr 71
              have xB := alloc_below wr (.cells #[.bool q.p.s, .int .i64 q.p.H.toInt, .int .i64 q.p.L.toInt, .int .i64 q.p.b, .string q.t] 71)
              have xL := alloc_lt wr (.cells #[.bool q.p.s, .int .i64 q.p.H.toInt, .int .i64 q.p.L.toInt, .int .i64 q.p.b, .string q.t] 71)
              have xS : (wr.alloc (.cells #[.bool q.p.s, .int .i64 q.p.H.toInt, .int .i64 q.p.L.toInt, .int .i64 q.p.b, .string q.t] 71)).heap.size = wr.heap.size + 1 := by simp
              generalize wr.alloc (.cells #[.bool q.p.s, .int .i64 q.p.H.toInt, .int .i64 q.p.L.toInt, .int .i64 q.p.b, .string q.t] 71) = W2 at *
              have HXB := hidP xB
              clear xS
              have r0 := (xB.cell huw).trans v0
              have r1 := (xB.cell huw).trans v1
              have rL : w.heap.size < W2.heap.size := Nat.lt_of_lt_of_le huw xB.size
              have y0 := (xB.cell hpw).trans e0
              have y1 := (xB.cell hpw).trans e1
              have y2 := (xB.cell hpw).trans e2
              have y3 := (xB.cell hpw).trans e3
              have yL : p < W2.heap.size := Nat.lt_of_lt_of_le hpw xB.size
              clear xB
              have HSx : Hid (∀ x, Below W2.heap.size W2 x → (x.cell? ⟨wr.heap.size, 0, none⟩ = some (.bool q.p.s) ∧ x.cell? ⟨wr.heap.size, 1, none⟩ = some (.int .i64 q.p.H.toInt) ∧ x.cell? ⟨wr.heap.size, 2, none⟩ = some (.int .i64 q.p.L.toInt) ∧ x.cell? ⟨wr.heap.size, 3, none⟩ = some (.int .i64 q.p.b) ∧ x.cell? ⟨wr.heap.size, 4, none⟩ = some (.string q.t) ∧ x.cell? ⟨w.heap.size, 0, none⟩ = some (.slice ap np cp) ∧ x.cell? ⟨w.heap.size, 1, none⟩ = some (.slice (some ⟨p, o, none⟩) nb cb) ∧ x.cell? ⟨p, o + J * 5, none⟩ = some (.bool r.p.s) ∧ x.cell? ⟨p, o + J * 5 + 1, none⟩ = some (.int .i64 r.p.H.toInt) ∧ x.cell? ⟨p, o + J * 5 + 2, none⟩ = some (.int .i64 r.p.L.toInt) ∧ x.cell? ⟨p, o + J * 5 + 3, none⟩ = some (.int .i64 r.p.b) ∧ Below W2.heap.size W2 x)) := hidP fun x h =>
                ⟨(h.cell xL).trans x0, (h.cell xL).trans x1, (h.cell xL).trans x2, (h.cell xL).trans x3, (h.cell xL).trans x4, (h.cell rL).trans r0, (h.cell rL).trans r1, (h.cell yL).trans y0, (h.cell yL).trans y1, (h.cell yL).trans y2, (h.cell yL).trans y3, h⟩
              refine wp_region_held_drew (S := (fun x => x.cell? ⟨wr.heap.size, 0, none⟩ = some (.bool q.p.s) ∧ x.cell? ⟨wr.heap.size, 1, none⟩ = some (.int .i64 q.p.H.toInt) ∧ x.cell? ⟨wr.heap.size, 2, none⟩ = some (.int .i64 q.p.L.toInt) ∧ x.cell? ⟨wr.heap.size, 3, none⟩ = some (.int .i64 q.p.b) ∧ x.cell? ⟨wr.heap.size, 4, none⟩ = some (.string q.t) ∧ x.cell? ⟨w.heap.size, 0, none⟩ = some (.slice ap np cp) ∧ x.cell? ⟨w.heap.size, 1, none⟩ = some (.slice (some ⟨p, o, none⟩) nb cb) ∧ x.cell? ⟨p, o + J * 5, none⟩ = some (.bool r.p.s) ∧ x.cell? ⟨p, o + J * 5 + 1, none⟩ = some (.int .i64 r.p.H.toInt) ∧ x.cell? ⟨p, o + J * 5 + 2, none⟩ = some (.int .i64 r.p.L.toInt) ∧ x.cell? ⟨p, o + J * 5 + 3, none⟩ = some (.int .i64 r.p.b) ∧ Below W2.heap.size W2 x)) (by kernel_rfl) ?_ (fun hHeld => ?_)
              · try dsimp only
                exact HSx.out _ ((Below.refl _ _).drew)
              refine tk 0 13 rfl ?_; simp only [pa]
              refine tk 1 14 rfl ?_; simp only [pa]
              refine wpAnyH_ready (rs := [2]) (by kernel_rfl) (by simp) ?_
              refine AllReadyH.cons rfl (fun K hK => ?_) AllReadyH.nil
              go_simp
              go_wp2_with (first | (go_at_call 116; refine (HOw.out _).mono ?_; rintro e w' ⟨rfl, rfl⟩))
              refine hK.out _ _ ?_ (fun hHeld => ?_)
              · try dsimp only
                exact HSx.out _ (hHeld.2.2.2.2.2.2.2.2.2.2.2)
              clear hK K
              refine tk 3 16 rfl ?_; simp only [pa]
              refine tk 4 17 rfl ?_; simp only [pa]
              refine tk 5 18 rfl ?_; simp only [pa]
              refine tk 6 19 rfl ?_; simp only [pa]
              refine tk 7 20 rfl ?_; simp only [pa]
              refine tk 8 21 rfl ?_; simp only [pa]
              refine wpAnyH_ready (rs := [9]) (by kernel_rfl) (by simp) ?_
              refine AllReadyH.cons rfl (fun K hK => ?_) AllReadyH.nil
              go_simp
              go_wp2_with (first | (go_at_call 117; refine (HCa.out _ (below_box HBel.out HBel.out.size HXB.out (hHeld.2.2.2.2.2.2.2.2.2.2.2))).mono ?_; rintro e w2 ⟨rfl, hb2⟩; have b2 := (hHeld.2.2.2.2.2.2.2.2.2.2.2).trans (hb2.mono (hHeld.2.2.2.2.2.2.2.2.2.2.2).size)))
              refine hK.out _ _ ?_ (fun hHeld => ?_)
              · try dsimp only
                exact HSx.out _ b2
              clear hK K
              refine tk 10 23 rfl ?_; simp only [pa]
              refine tk 11 24 rfl ?_; simp only [pa]
              refine tk 12 25 rfl ?_; simp only [pa]
              refine tk 13 26 rfl ?_; simp only [pa]
              refine tk 14 27 rfl ?_; simp only [pa]
              refine tk 15 28 rfl ?_; simp only [pa]
              refine tk 16 29 rfl ?_; simp only [pa]
              refine tk 17 30 rfl ?_; simp only [pa]
              refine tk 18 31 rfl ?_; simp only [pa]
              refine tk 19 32 rfl ?_; simp only [pa]
              refine tk 20 33 rfl ?_; simp only [pa]
              refine tk 21 34 rfl ?_; simp only [pa]
              refine tk 22 35 rfl ?_; simp only [pa]
              refine tk 23 36 rfl ?_; simp only [pa]
              refine tk 24 37 rfl ?_; simp only [pa]
              refine wpAnyH_ready (rs := [25]) (by kernel_rfl) (by simp) ?_
              refine AllReadyH.cons rfl (fun K hK => ?_) AllReadyH.nil
              go_simp
              go_wp2_with (first | (go_at_call 115; refine (HFo.out _).mono ?_; rintro e w3 ⟨rfl, hb3⟩; have b3 := (hHeld.2.2.2.2.2.2.2.2.2.2.2).trans (hb3.mono (hHeld.2.2.2.2.2.2.2.2.2.2.2).size)))
              refine hK.out _ _ ?_ (fun hHeld => ?_)
              · try dsimp only
                exact HSx.out _ b3
              clear hK K
              refine tk 26 39 rfl ?_; simp only [pa]
              refine tk 27 40 rfl ?_; simp only [pa]
              refine tk 28 41 rfl ?_; simp only [pa]
              have HE := hidP (hHeld.2.2.2.2.2.2.2.2.2.2.2)
              refine wpAnyH_done (by kernel_rfl) ?_ _
              clear hHeld
              go_wp2_with fail
              go_ret
              exact ⟨ret_b HF.out.symm, HUB.out.trans ((below_box HBel.out HBel.out.size HXB.out HE.out).mono HUB.out.size)⟩
            · rw [hfo] at HPo2 HFo
              have HF : Hid (blocksI ps none bs = blocksI ps (some q.p) (bs.drop (k + 1))) := hidP (by rw [HPo2.out]; rfl)
              clear HPo2
              go_wp2_with fail
              obtain ⟨x0, x1, x2, x3, x4⟩ := boxBk (q := q) wr 71
              have xB := alloc_below wr (.cells #[.bool q.p.s, .int .i64 q.p.H.toInt, .int .i64 q.p.L.toInt, .int .i64 q.p.b, .string q.t] 71)
              have xL := alloc_lt wr (.cells #[.bool q.p.s, .int .i64 q.p.H.toInt, .int .i64 q.p.L.toInt, .int .i64 q.p.b, .string q.t] 71)
              have xS : (wr.alloc (.cells #[.bool q.p.s, .int .i64 q.p.H.toInt, .int .i64 q.p.L.toInt, .int .i64 q.p.b, .string q.t] 71)).heap.size = wr.heap.size + 1 := by simp
              generalize wr.alloc (.cells #[.bool q.p.s, .int .i64 q.p.H.toInt, .int .i64 q.p.L.toInt, .int .i64 q.p.b, .string q.t] 71) = W2 at *
              have HXB := hidP xB
              clear xS
              have r0 := (xB.cell huw).trans v0
              have r1 := (xB.cell huw).trans v1
              have rL : w.heap.size < W2.heap.size := Nat.lt_of_lt_of_le huw xB.size
              have y0 := (xB.cell hpw).trans e0
              have y1 := (xB.cell hpw).trans e1
              have y2 := (xB.cell hpw).trans e2
              have y3 := (xB.cell hpw).trans e3
              have yL : p < W2.heap.size := Nat.lt_of_lt_of_le hpw xB.size
              clear xB
              have HSx : Hid (∀ x, Below W2.heap.size W2 x → (x.cell? ⟨wr.heap.size, 0, none⟩ = some (.bool q.p.s) ∧ x.cell? ⟨wr.heap.size, 1, none⟩ = some (.int .i64 q.p.H.toInt) ∧ x.cell? ⟨wr.heap.size, 2, none⟩ = some (.int .i64 q.p.L.toInt) ∧ x.cell? ⟨wr.heap.size, 3, none⟩ = some (.int .i64 q.p.b) ∧ x.cell? ⟨wr.heap.size, 4, none⟩ = some (.string q.t) ∧ x.cell? ⟨w.heap.size, 0, none⟩ = some (.slice ap np cp) ∧ x.cell? ⟨w.heap.size, 1, none⟩ = some (.slice (some ⟨p, o, none⟩) nb cb) ∧ x.cell? ⟨p, o + J * 5, none⟩ = some (.bool r.p.s) ∧ x.cell? ⟨p, o + J * 5 + 1, none⟩ = some (.int .i64 r.p.H.toInt) ∧ x.cell? ⟨p, o + J * 5 + 2, none⟩ = some (.int .i64 r.p.L.toInt) ∧ x.cell? ⟨p, o + J * 5 + 3, none⟩ = some (.int .i64 r.p.b) ∧ Below W2.heap.size W2 x)) := hidP fun x h =>
                ⟨(h.cell xL).trans x0, (h.cell xL).trans x1, (h.cell xL).trans x2, (h.cell xL).trans x3, (h.cell xL).trans x4, (h.cell rL).trans r0, (h.cell rL).trans r1, (h.cell yL).trans y0, (h.cell yL).trans y1, (h.cell yL).trans y2, (h.cell yL).trans y3, h⟩
              refine wp_region_held_drew (S := (fun x => x.cell? ⟨wr.heap.size, 0, none⟩ = some (.bool q.p.s) ∧ x.cell? ⟨wr.heap.size, 1, none⟩ = some (.int .i64 q.p.H.toInt) ∧ x.cell? ⟨wr.heap.size, 2, none⟩ = some (.int .i64 q.p.L.toInt) ∧ x.cell? ⟨wr.heap.size, 3, none⟩ = some (.int .i64 q.p.b) ∧ x.cell? ⟨wr.heap.size, 4, none⟩ = some (.string q.t) ∧ x.cell? ⟨w.heap.size, 0, none⟩ = some (.slice ap np cp) ∧ x.cell? ⟨w.heap.size, 1, none⟩ = some (.slice (some ⟨p, o, none⟩) nb cb) ∧ x.cell? ⟨p, o + J * 5, none⟩ = some (.bool r.p.s) ∧ x.cell? ⟨p, o + J * 5 + 1, none⟩ = some (.int .i64 r.p.H.toInt) ∧ x.cell? ⟨p, o + J * 5 + 2, none⟩ = some (.int .i64 r.p.L.toInt) ∧ x.cell? ⟨p, o + J * 5 + 3, none⟩ = some (.int .i64 r.p.b) ∧ Below W2.heap.size W2 x)) (by kernel_rfl) ?_ (fun hHeld => ?_)
              · try dsimp only
                exact HSx.out _ ((Below.refl _ _).drew)
              refine tk 0 13 rfl ?_; simp only [pa]
              refine tk 1 14 rfl ?_; simp only [pa]
              refine wpAnyH_ready (rs := [2]) (by kernel_rfl) (by simp) ?_
              refine AllReadyH.cons rfl (fun K hK => ?_) AllReadyH.nil
              go_simp
              go_wp2_with (first | (go_at_call 116; refine (HOw.out _).mono ?_; rintro e w' ⟨rfl, rfl⟩))
              refine hK.out _ _ ?_ (fun hHeld => ?_)
              · try dsimp only
                exact HSx.out _ (hHeld.2.2.2.2.2.2.2.2.2.2.2)
              clear hK K
              refine tk 3 16 rfl ?_; simp only [pa]
              refine tk 4 17 rfl ?_; simp only [pa]
              refine tk 5 18 rfl ?_; simp only [pa]
              refine tk 6 19 rfl ?_; simp only [pa]
              refine tk 7 20 rfl ?_; simp only [pa]
              refine tk 8 21 rfl ?_; simp only [pa]
              refine wpAnyH_ready (rs := [9]) (by kernel_rfl) (by simp) ?_
              refine AllReadyH.cons rfl (fun K hK => ?_) AllReadyH.nil
              go_simp
              go_wp2_with (first | (go_at_call 117; refine (HCa.out _ (below_box HBel.out HBel.out.size HXB.out (hHeld.2.2.2.2.2.2.2.2.2.2.2))).mono ?_; rintro e w2 ⟨rfl, hb2⟩; have b2 := (hHeld.2.2.2.2.2.2.2.2.2.2.2).trans (hb2.mono (hHeld.2.2.2.2.2.2.2.2.2.2.2).size)))
              refine hK.out _ _ ?_ (fun hHeld => ?_)
              · try dsimp only
                exact HSx.out _ b2
              clear hK K
              refine tk 10 23 rfl ?_; simp only [pa]
              refine tk 11 24 rfl ?_; simp only [pa]
              refine tk 12 25 rfl ?_; simp only [pa]
              refine tk 13 26 rfl ?_; simp only [pa]
              refine tk 14 27 rfl ?_; simp only [pa]
              refine tk 15 28 rfl ?_; simp only [pa]
              refine tk 16 29 rfl ?_; simp only [pa]
              refine tk 17 30 rfl ?_; simp only [pa]
              refine tk 18 31 rfl ?_; simp only [pa]
              refine tk 19 32 rfl ?_; simp only [pa]
              refine tk 20 33 rfl ?_; simp only [pa]
              refine tk 21 34 rfl ?_; simp only [pa]
              refine tk 22 35 rfl ?_; simp only [pa]
              refine tk 23 36 rfl ?_; simp only [pa]
              refine tk 24 37 rfl ?_; simp only [pa]
              refine wpAnyH_ready (rs := [25]) (by kernel_rfl) (by simp) ?_
              refine AllReadyH.cons rfl (fun K hK => ?_) AllReadyH.nil
              go_simp
              go_wp2_with (first | (go_at_call 115; refine (HFo.out _).mono ?_; rintro e w3 ⟨rfl, hb3⟩; have b3 := (hHeld.2.2.2.2.2.2.2.2.2.2.2).trans (hb3.mono (hHeld.2.2.2.2.2.2.2.2.2.2.2).size)))
              refine hK.out _ _ ?_ (fun hHeld => ?_)
              · try dsimp only
                exact HSx.out _ b3
              clear hK K
              refine tk 26 39 rfl ?_; simp only [pa]
              refine tk 27 40 rfl ?_; simp only [pa]
              refine tk 28 41 rfl ?_; simp only [pa]
              have HE := hidP (hHeld.2.2.2.2.2.2.2.2.2.2.2)
              refine wpAnyH_done (by kernel_rfl) ?_ _
              clear hHeld
              go_wp2_with fail
              go_roundw
              case rel => exact ⟨k + 1, by omega, by go_num, by rw [HF.out, HNx.out], (fun r h => by rw [HNx.out] at h; cases h; exact HOk.out), below_box HBel.out HBel.out.size HXB.out HE.out⟩
              case measure => simp [intOf]; omega
    · have HF : Hid (blocksI ps none bs = true) := by
        rw [List.drop_of_length_le (by have := HN.out; omega)] at hpo
        exact hidP hpo
      have HBel := hidP hbel
      clear hbel hpo hpr
      go_wp2_with fail
      go_ret
      exact ⟨ret_b HF.out.symm, HUB.out.trans (HBel.out.mono HUB.out.size)⟩

end Go.Proofs.YtngcbhbcocnbeaaGreat
namespace Go.Proofs.YtngcbhbcocnbeaaGreat
open Go.ChangeShapes Go.WideShapes Go.ChangeAt Go.RowKit Go.Joins Go.Deep

theorem rowsG_of2 {α : Type} {K : Kd α} {E : α → Prop} {W : World} (a : Option Addr) : ∀ n : Nat, (∀ j, j < n → ∃ p o q, a = some ⟨p, o, none⟩ ∧ p < W.heap.size ∧ (∀ i v, (K.cs q)[i]? = some v → W.cell? ⟨p, o + j * K.k + i, none⟩ = some v) ∧ E q) → ∃ ps : List α, ps.length = n ∧ RowG K W a ps ∧ ∀ q ∈ ps, E q
  | 0, _ => ⟨[], rfl, RowG.nil _ _ _, fun _ h => by cases h⟩
  | n + 1, h => by
      obtain ⟨ps, hl, hb, he⟩ := rowsG_of2 a n (fun j hj => h j (by omega))
      obtain ⟨p, o, q, ha, hp, c, hq⟩ := h n (by omega)
      refine ⟨ps ++ [q], by simp [hl], fun j hj => ?_, fun x hx => ?_⟩
      · by_cases hjn : j < n
        · obtain ⟨p', o', z, ha', hp', hz, hc'⟩ := hb j (by omega)
          exact ⟨p', o', z, ha', hp', by rw [List.getElem?_append_left (by omega)]; exact hz, hc'⟩
        · have : j = n := by simp at hj; omega
          subst this
          exact ⟨p, o, q, ha, hp, by rw [List.getElem?_append_right (by omega), hl]; simp, c⟩
      · rcases List.mem_append.1 hx with hx | hx
        · exact he x hx
        · rw [List.mem_singleton] at hx; subst hx; exact hq

/-- One out of its five cells. -/
theorem ofBk2 {H : Type} {enc : TypeId × Value → H} {W : World} {fuel : Nat} {cs : List Value} {x : DataW H × List MemPlace} (hl : cs.length = 5)
    (h : DataW.trod enc Tryz.prog W 0 (fun _ => true) true fuel 132 cs = some x) : ∃ q : Bk, cs = q.cs ∧ q.t.size ≤ 9223372036854775807 := by
  match cs, hl with
  | [c0, c1, c2, c3, c4], _ =>
    obtain ⟨z0, z1, n, hx, _, h0, h1⟩ := trod_struct2 Tryz.underlying132 h
    have k0 : Tryz.prog.cellsOf 130 = 4 := by kernel_rfl
    have kl : Tryz.prog.cellsOf 9 = 1 := by kernel_rfl
    simp [k0, kl] at h0 h1
    obtain ⟨p, hp⟩ := pf_of rfl h0
    obtain ⟨y, e1, _, wy⟩ := DataW.trod_string Tryz.underlying9 h1
    simp at e1
    subst e1
    have hp' : [c0, c1, c2, c3] = [.bool p.s, .int .i64 p.H.toInt, .int .i64 p.L.toInt, .int .i64 p.b] := hp
    simp only [List.cons.injEq, and_true] at hp'
    obtain ⟨rfl, rfl, rfl, rfl⟩ := hp'
    exact ⟨⟨p, y⟩, rfl, by unfold maxLen at wy; show y.size ≤ _; omega⟩

set_option maxRecDepth 100000 in
/-- The things out of the reading of a row of them. -/
theorem openBk2 {H : Type} {enc : TypeId × Value → H} {W : World} {a : Option Addr} {len cap : Nat} {d : DataW H} {p : List MemPlace}
    (h : DataW.Trod enc Tryz.prog W 0 (fun _ => true) true 23 (.slice a len cap) d p) : ∃ ps : List Bk, ps.length = len ∧ len ≤ 9223372036854775807 ∧ RowG KBk W a ps ∧ ∀ q ∈ ps, q.t.size ≤ 9223372036854775807 := by
  obtain ⟨fuel, hf⟩ := h
  rcases open_slice Tryz.underlying23 hf with ⟨hcs, _⟩ | ⟨a', len', cap', m, n, D, Plc, hcs, _, hl, hmx, hm, _, hV⟩
  · simp [Value.cells] at hcs
    obtain ⟨rfl, rfl, rfl⟩ := hcs
    exact ⟨[], rfl, by omega, RowG.nil _ _ _, fun _ h => by cases h⟩
  · simp [Value.cells] at hcs
    obtain ⟨rfl, rfl, rfl⟩ := hcs
    suffices h9 : ∃ ps : List Bk, ps.length = len ∧ RowG KBk W (some a') ps ∧ ∀ q ∈ ps, q.t.size ≤ 9223372036854775807 by
      obtain ⟨ps, h1, h2⟩ := h9
      exact ⟨ps, h1, by unfold maxLen at hmx; omega, h2⟩
    refine rowsG_of2 (E := fun q : Bk => q.t.size ≤ 9223372036854775807) _ _ fun j hj => ?_
    simp at hm
    obtain ⟨cs', h1, h2⟩ := hV j (by omega)
    rw [Tryz.cellsBk] at h1
    obtain ⟨_, hlen, hcell⟩ := World.cells?_some h1
    obtain ⟨q, rfl, hq9⟩ := ofBk2 hlen h2
    obtain ⟨p', o', sp⟩ := a'
    cases sp with
    | some r =>
      exfalso
      obtain ⟨cs0, g1, g2⟩ := hV 0 (by omega)
      rw [Tryz.cellsBk] at g1
      obtain ⟨_, glen, gcell⟩ := World.cells?_some g1
      obtain ⟨q0, rfl, _⟩ := ofBk2 glen g2
      have h0 := gcell 0 (by omega)
      rw [Nat.zero_mul, show Addr.add (Addr.add ⟨p', o', some r⟩ 0) 0 = ⟨p', o', some r⟩ from rfl] at h0
      unfold World.cell? at h0
      split at h0
      · simp [Bk.cs] at h0
      · cases h0
    | none =>
      have ea : ∀ i k : Nat, Addr.add (Addr.add ⟨p', o', none⟩ i) k = ⟨p', o' + i + k, none⟩ := fun i k => by
        have ea1 : ∀ (o k : Nat), Addr.add ⟨p', o, none⟩ k = ⟨p', o + k, none⟩ := fun o k => by unfold Addr.add; split <;> simp_all
        rw [ea1, ea1]
      have hall : ∀ i v, (KBk.cs q)[i]? = some v → W.cell? ⟨p', o' + j * KBk.k + i, none⟩ = some v := fun i v hv => by
        have hi : i < 5 := by
          rcases Nat.lt_or_ge i (KBk.cs q).length with h1 | h1
          · exact h1
          · rw [List.getElem?_eq_none h1] at hv; cases hv
        have e0 := hcell i hi
        rw [ea] at e0
        exact e0.trans hv
      exact ⟨p', o', q, rfl, World.block_lt_of_cell? W _ (hall 0 _ rfl), hall, hq9⟩

/-- How many bytes the owners have. -/
def sumT : List Bk → Nat
  | [] => 0
  | q :: t => q.t.size + sumT t
theorem sumT_app : ∀ xs ys : List Bk, sumT (xs ++ ys) = sumT xs + sumT ys
  | [], ys => by simp [sumT]
  | q :: t, ys => by simp [sumT, sumT_app t ys]; omega
theorem sumT_next {bs : List Bk} {k : Nat} {q : Bk} (h : bs[k]? = some q) : sumT (bs.take (k + 1)) = sumT (bs.take k) + q.t.size := by
  rw [List.take_add_one, h, sumT_app]; simp [sumT]
theorem sumT_le (bs : List Bk) (k : Nat) : sumT (bs.take k) ≤ sumT bs := by
  conv => rhs; rw [← List.take_append_drop k bs, sumT_app]
  omega

def szO (l : Int) (n : Nat) : Int := if l - (n : Int) < 0 then -1 else l - (n : Int)
def szB (n s : Nat) (l : Int) : Int := if (n : Int) + (s : Int) ≤ l then l - n - s else -1
def szT (t : Int) : Int := if t ≤ 1048576 then 1048576 - t else -1
theorem szO_yes {l : Int} {n : Nat} (h : l - (n : Int) < 0) : szO l n = -1 := by unfold szO; rw [if_pos h]
theorem szO_no {l : Int} {n : Nat} (h : ¬ l - (n : Int) < 0) : szO l n = l - (n : Int) := by unfold szO; rw [if_neg h]
theorem szB_yes {n s : Nat} {l : Int} (h : (n : Int) + (s : Int) ≤ l) : szB n s l = l - n - s := by unfold szB; rw [if_pos h]
theorem szB_no {n s : Nat} {l : Int} (h : ¬ (n : Int) + (s : Int) ≤ l) : szB n s l = -1 := by unfold szB; rw [if_neg h]
theorem szT_yes {t : Int} (h : t ≤ 1048576) : szT t = 1048576 - t := by unfold szT; rw [if_pos h]
theorem szT_no {t : Int} (h : ¬ t ≤ 1048576) : szT t = -1 := by unfold szT; rw [if_neg h]

set_option maxHeartbeats 400000 in
theorem szBlock_any (q : Bk) (l : Int) (h0 : 0 ≤ l) (h1 : l ≤ 1048576) (h9 : q.t.size ≤ 9223372036854775807) (w : World) :
    Calls Tryz.prog 78 #[.agg #[.bool q.p.s, .int .i64 q.p.H.toInt, .int .i64 q.p.L.toInt, .int .i64 q.p.b, .string q.t], .int .i64 l] w fun e w' => e = .returned (.int .i64 (szO l q.t.size)) ∧ Below w.heap.size w w' := by
  by_cases hd : l - (q.t.size : Int) < 0
  · rw [szO_yes hd]
    go_enter Tryz.func78, Tryz.ntmps78
    go_wp2
    go_ret
    exact ⟨rfl, (Below.refl _ _).alloc (Nat.le_refl _) _⟩
  · rw [szO_no hd]
    have hd2 : decide (l - (q.t.size : Int) < 0) = false := decide_eq_false hd
    go_enter Tryz.func78, Tryz.ntmps78
    go_wp2
    go_ret
    exact ⟨rfl, (Below.refl _ _).alloc (Nat.le_refl _) _⟩

set_option maxHeartbeats 1000000 in
theorem szBlockS_any (a : Option Addr) (n cap : Nat) (bs : List Bk) (l : Int) (h0 : 0 ≤ l) (h1 : l ≤ 1048576) (w : World) (hn : n = bs.length) (hB : RowG KBk w a bs) (h9 : n ≤ 9223372036854775807) (hst : ∀ q ∈ bs, q.t.size ≤ 9223372036854775807) :
    Calls Tryz.prog 49 #[.slice a n cap, .int .i64 l] w fun e w' => e = .returned (.int .i64 (szB n (sumT bs) l)) ∧ Below w.heap.size w w' := by
  have HB := hidP hB
  have HN := hidP hn
  have HST := hidP hst
  clear hB hn hst
  by_cases hnl : l < (n : Int)
  · rw [szB_no (by omega)]
    have d1 : decide (l - (n : Int) < 0) = true := decide_eq_true (by omega)
    go_enter Tryz.func49, Tryz.ntmps49
    go_wp2
    go_ret
    exact ⟨rfl, Below.refl _ _⟩
  · have d1 : decide (l - (n : Int) < 0) = false := decide_eq_false (by omega)
    have d2 : ¬ (l - (n : Int) < 0) := by omega
    go_enter Tryz.func49, Tryz.ntmps49
    go_wp2_with fail
    go_loopw [1, 5] (fun t1 t5 wr => ∃ (k : Nat) (z : Int), k ≤ n ∧ t5 = .int .i64 k ∧ t1 = .int .i64 z ∧ z = l - n - sumT (bs.take k) ∧ 0 ≤ z ∧ Below w.heap.size w wr) (fun _ t5 _ => n - (intOf t5).toNat)
    case atStart => exact ⟨0, l - n, Nat.zero_le _, rfl, rfl, by simp [sumT], by omega, Below.refl _ _⟩
    case round =>
      obtain ⟨k, z, hk, rfl, rfl, hz, hz0, hbel⟩ := hrel
      by_cases hlt : k < n
      · obtain ⟨p, o, q, rfl, hp, hq, c0, c1, c2, c3, c4⟩ := rowBk HB.out k (by rw [← HN.out]; exact hlt)
        have d0 := (hbel.cell hp).trans c0
        have d1 := (hbel.cell hp).trans c1
        have d2 := (hbel.cell hp).trans c2
        have d3 := (hbel.cell hp).trans c3
        have d4 := (hbel.cell hp).trans c4
        have HBel := hidP hbel
        have HNx := hidP (sumT_next hq)
        have HLe := hidP (sumT_le bs (k + 1))
        have hz1 : z ≤ 1048576 := by omega
        have HZ := hidP hz
        have HS := hidP (szBlock_any q z hz0 hz1 (HST.out q (List.mem_of_getElem? hq)))
        clear c0 c1 c2 c3 c4 hq hbel hz
        by_cases hd : z - (q.t.size : Int) < 0
        · rw [szO_yes hd] at HS
          have HF : Hid (¬ ((n : Int) + (sumT bs : Int) ≤ l)) := hidP (by have := HZ.out; have := HNx.out; have := HLe.out; omega)
          go_wp2_with fail
          refine (HS.out _).mono ?_
          rintro e w2 ⟨rfl, hb2⟩
          have HB2 := hidP (HBel.out.trans (hb2.mono HBel.out.size))
          clear hb2 HBel d0 d1 d2 d3 d4
          go_wp2_with fail
          go_ret
          exact ⟨ret_i (szB_no (by have := HF.out; omega)).symm, HB2.out⟩
        · rw [szO_no hd] at HS
          have hd2 : decide (z - (q.t.size : Int) < 0) = false := decide_eq_false hd
          go_wp2_with fail
          refine (HS.out _).mono ?_
          rintro e w2 ⟨rfl, hb2⟩
          have HB2 := hidP (HBel.out.trans (hb2.mono HBel.out.size))
          clear hb2 HBel d0 d1 d2 d3 d4
          go_wp2_with fail
          go_roundw
          case rel => exact ⟨k + 1, z - (q.t.size : Int), by omega, by go_num, rfl, by have := HZ.out; have := HNx.out; omega, by omega, HB2.out⟩
          case measure => simp [intOf]; omega
      · have hkn : k = n := by omega
        have HF : Hid ((n : Int) + (sumT bs : Int) ≤ l ∧ z = l - n - sumT bs) := by
          rw [List.take_of_length_le (by have := HN.out; omega)] at hz
          exact hidP ⟨by omega, hz⟩
        have HBel := hidP hbel
        clear hbel hz
        go_wp2_with fail
        go_ret
        exact ⟨ret_i (by rw [szB_yes HF.out.1, ← HF.out.2]), HBel.out⟩

/-- How much of a law's room a plan takes. -/
def totP (ps : List Pl) (bs : List Bk) : Int := ps.length + (bs.length + sumT bs)

set_option maxHeartbeats 1000000 in
theorem szPlan_any (ap : Option Addr) (np cp : Nat) (ab : Option Addr) (nb cb : Nat) (ps : List Pl) (bs : List Bk) (w : World) (hnp : np = ps.length) (hnb : nb = bs.length) (hK : RowG KBk w ab bs) (h9 : np ≤ 9223372036854775807) (h9' : nb ≤ 9223372036854775807) (hst : ∀ q ∈ bs, q.t.size ≤ 9223372036854775807) :
    Calls Tryz.prog 16 #[.agg #[.slice ap np cp, .slice ab nb cb], .int .i64 1048576] w fun e w' => e = .returned (.int .i64 (szT (totP ps bs))) ∧ Below w.heap.size w w' := by
  unfold totP
  rw [← hnp, ← hnb]
  by_cases hl : (np : Int) ≤ 1048576
  · have HP := hidP (szPoolS_any ap np cp 1048576 hl (Int.le_refl _))
    have HBk := hidP (fun W h => szBlockS_any ab nb cb bs (1048576 - np) (by omega) (by omega) W hnb (hK.later h) h9' hst)
    have hz0 : ¬ (1048576 - (np : Int) < 0) := by omega
    have hz1 : decide (1048576 - (np : Int) < 0) = false := decide_eq_false hz0
    clear hK hnp hnb hst
    by_cases ht : (nb : Int) + (sumT bs : Int) ≤ 1048576 - np
    · rw [szB_yes ht] at HBk
      rw [szT_yes (by omega)]
      have hz2 : decide (1048576 - (np : Int) - (nb : Int) - (sumT bs : Int) < 0) = false := decide_eq_false (by omega)
      generalize he : (1048576 - (np : Int) - (nb : Int) - (sumT bs : Int)) = z at *
      have hz3 : ¬ z < 0 := by omega
      have HE := hidP he
      clear he
      go_enter Tryz.func16, Tryz.ntmps16
      go_wp2_with fail
      obtain ⟨u0, u1⟩ := box2 (u := .slice ap np cp) (v := .slice ab nb cb) w 25
      have uB := alloc_below w (.cells #[.slice ap np cp, .slice ab nb cb] 25)
      have uL := alloc_lt w (.cells #[.slice ap np cp, .slice ab nb cb] 25)
      have uS : (w.alloc (.cells #[.slice ap np cp, .slice ab nb cb] 25)).heap.size = w.heap.size + 1 := by simp
      generalize w.alloc (.cells #[.slice ap np cp, .slice ab nb cb] 25) = W1 at *
      have HU := hidP uB
      refine (HP.out _).mono ?_
      rintro e w1 ⟨rfl, rfl⟩
      clear uB uS
      go_wp2_with fail
      refine (HBk.out _ HU.out).mono ?_
      rintro e w2 ⟨rfl, hb2⟩
      have HB2 := hidP hb2
      clear hb2
      go_wp2_with fail
      go_ret
      exact ⟨ret_i (by have := HE.out; omega), HU.out.trans (HB2.out.mono HU.out.size)⟩
    · rw [szB_no ht] at HBk
      rw [szT_no (by omega)]
      go_enter Tryz.func16, Tryz.ntmps16
      go_wp2_with fail
      obtain ⟨u0, u1⟩ := box2 (u := .slice ap np cp) (v := .slice ab nb cb) w 25
      have uB := alloc_below w (.cells #[.slice ap np cp, .slice ab nb cb] 25)
      have uL := alloc_lt w (.cells #[.slice ap np cp, .slice ab nb cb] 25)
      have uS : (w.alloc (.cells #[.slice ap np cp, .slice ab nb cb] 25)).heap.size = w.heap.size + 1 := by simp
      generalize w.alloc (.cells #[.slice ap np cp, .slice ab nb cb] 25) = W1 at *
      have HU := hidP uB
      refine (HP.out _).mono ?_
      rintro e w1 ⟨rfl, rfl⟩
      clear uB uS
      go_wp2_with fail
      refine (HBk.out _ HU.out).mono ?_
      rintro e w2 ⟨rfl, hb2⟩
      have HB2 := hidP hb2
      clear hb2
      go_wp2_with fail
      go_ret
      exact ⟨rfl, HU.out.trans (HB2.out.mono HU.out.size)⟩
  · have HP := hidP (szPoolS_big ap np cp 1048576 (by omega) (by omega) h9)
    rw [szT_no (by omega)]
    clear hK hnp hnb hst
    go_enter Tryz.func16, Tryz.ntmps16
    go_wp2_with fail
    refine (HP.out _).mono ?_
    rintro e w1 ⟨rfl, rfl⟩
    go_wp2_with fail
    go_ret
    exact ⟨rfl, (Below.refl _ _).alloc (Nat.le_refl _) _⟩

set_option maxHeartbeats 1000000 in
theorem toPlan_any (ap : Option Addr) (np cp : Nat) (ab : Option Addr) (nb cb : Nat) (ps : List Pl) (bs : List Bk) (w : World) (hnp : np = ps.length) (hnb : nb = bs.length) (hP : RowG KPl w ap ps) (hK : RowG KBk w ab bs) (hl : np ≤ 1048576) (hl' : nb ≤ 1048576) :
    Calls Tryz.prog 25 #[.agg #[.slice ap np cp, .slice ab nb cb]] w fun e w' => ∃ g h, e = .returned (.agg #[.slice (some ⟨g, 0, none⟩) np np, .slice (some ⟨h, 0, none⟩) nb nb]) ∧ OwnG KPl 68 w' w.heap.size (.slice (some ⟨g, 0, none⟩) np np) ps ∧ OwnG KBk 71 w' w.heap.size (.slice (some ⟨h, 0, none⟩) nb nb) bs ∧ g ≠ h ∧ Below w.heap.size w w' := by
  have HTP := hidP (fun W h => toPoolS_any ap np cp ps W hnp (hP.later h) hl)
  have HTB := hidP (fun W h => toBlockS_any ab nb cb bs W hnb (hK.later h) hl')
  clear hP hK hnp hnb
  go_enter Tryz.func25, Tryz.ntmps25
  go_wp2_with fail
  refine (HTP.out _ ?_).mono ?_
  · repeat (first | with_reducible exact Below.refl _ _ | (with_reducible refine Below.drew ?_) | (with_reducible refine Below.alloc ?_ ?_ _; rotate_left; (focus (first | omega | (simp; omega) | (simp; done)))) | (with_reducible refine Below.setCell ?_ ?_ _; rotate_left; (focus (first | omega | (simp; omega) | (simp; done)))))
  rintro e w1 ⟨g, rfl, og, hb1⟩
  have hz1 := hb1.size
  try simp at hz1
  have hgl := OwnG.lt og g rfl
  try simp at hgl
  have f10 : w.heap.size < w1.heap.size := by omega
  have f11 : w.heap.size + 1 < w1.heap.size := by omega
  have f12 : w.heap.size + 2 < w1.heap.size := by omega
  refine olds_k (w.heap.size + 3) hb1 ?_ ?_
  · first | omega | (simp; omega) | (simp; done)
  intro hc1 hf1
  have OG := hidP og
  clear og
  go_wp2_with fail
  refine (HTB.out _ ?_).mono ?_
  · repeat (first | with_reducible exact Below.refl _ _ | (with_reducible refine Below.drew ?_) | (with_reducible refine Below.alloc ?_ ?_ _; rotate_left; (focus (first | omega | (simp; omega) | (simp; done)))) | (with_reducible refine Below.setCell ?_ ?_ _; rotate_left; (focus (first | omega | (simp; omega) | (simp; done)))) | (with_reducible refine Below.trans ?_ (hb1.mono ?_); rotate_left; (focus (first | omega | (simp; omega) | (simp; done)))))
  rintro e w2 ⟨h, rfl, oh, hb2⟩
  have hz2 := hb2.size
  try simp at hz2
  have hhl := OwnG.lt oh h rfl
  try simp at hhl
  have f20 : w.heap.size < w2.heap.size := by omega
  have f21 : w.heap.size + 1 < w2.heap.size := by omega
  have f22 : w.heap.size + 2 < w2.heap.size := by omega
  refine olds_k (w1.heap.size) hb2 ?_ ?_
  · first | omega | (simp; omega) | (simp; done)
  intro hc2 hf2
  have OH := hidP oh
  clear oh
  have OG2 := hidP ((OwnG.grown OG.out (grown_cellG w1 (w.heap.size + 2) 0 (.slice (some ⟨g, 0, none⟩) np np)) (fun k hk => by simp [Value.ownBlock] at hk; subst hk; intro hh; simp at hh; omega)).later hb2)
  have hgh : g ≠ h := by omega
  have q0 : w2.cell? ⟨w.heap.size + 1, 0, none⟩ = some (.slice none 0 0) := by rw [hc2 _ _ f11]; simp [go_sem, hc1]
  have q1 : w2.cell? ⟨w.heap.size + 1, 1, none⟩ = some (.slice none 0 0) := by rw [hc2 _ _ f11]; simp [go_sem, hc1]
  go_wp2_with fail
  refine bodyPost_ret (v := .agg #[.slice (some ⟨g, 0, none⟩) np np, .slice (some ⟨h, 0, none⟩) nb nb]) (by simp [results, Tryz.results25, go_sem, q0, q1]) rfl ⟨g, h, rfl, ?_, ?_, hgh, ?_⟩
  · have o1 := OwnG.grown OG2.out (grown_cellG w2 (w.heap.size + 1 + 1) 1 (.slice (some ⟨h, 0, none⟩) nb nb)) (fun k hk => by simp [Value.ownBlock] at hk; subst hk; intro hh; simp at hh; omega)
    have o2 := OwnG.grown o1 (grown_cellG _ (w.heap.size + 1) 0 (.slice (some ⟨g, 0, none⟩) np np)) (fun k hk => by simp [Value.ownBlock] at hk; subst hk; intro hh; simp at hh; omega)
    have o3 := OwnG.grown o2 (grown_cellG _ (w.heap.size + 1) 1 (.slice (some ⟨h, 0, none⟩) nb nb)) (fun k hk => by simp [Value.ownBlock] at hk; subst hk; intro hh; simp at hh; omega)
    exact o3.mono (by simp; omega)
  · have o1 := OwnG.grown OH.out (grown_cellG w2 (w.heap.size + 1 + 1) 1 (.slice (some ⟨h, 0, none⟩) nb nb)) (fun k hk => by simp [Value.ownBlock] at hk; subst hk; intro hh; simp at hh; omega)
    have o2 := OwnG.grown o1 (grown_cellG _ (w.heap.size + 1) 0 (.slice (some ⟨g, 0, none⟩) np np)) (fun k hk => by simp [Value.ownBlock] at hk; subst hk; intro hh; simp at hh; omega)
    have o3 := OwnG.grown o2 (grown_cellG _ (w.heap.size + 1) 1 (.slice (some ⟨h, 0, none⟩) nb nb)) (fun k hk => by simp [Value.ownBlock] at hk; subst hk; intro hh; simp at hh; omega)
    exact o3.mono (by simp; omega)
  · repeat (first | with_reducible exact Below.refl _ _ | (with_reducible refine Below.drew ?_) | (with_reducible refine Below.alloc ?_ ?_ _; rotate_left; (focus (first | omega | (simp; omega) | (simp; done)))) | (with_reducible refine Below.setCell ?_ ?_ _; rotate_left; (focus (first | omega | (simp; omega) | (simp; done)))) | (with_reducible refine Below.trans ?_ (hb2.mono ?_); rotate_left; (focus (first | omega | (simp; omega) | (simp; done)))) | (with_reducible refine Below.trans ?_ (hb1.mono ?_); rotate_left; (focus (first | omega | (simp; omega) | (simp; done)))))

set_option maxHeartbeats 1000000 in
theorem eqPlan_same (ap ap' : Option Addr) (np cp cp' : Nat) (ab ab' : Option Addr) (nb cb cb' : Nat) (ps : List Pl) (bs : List Bk) (w : World) (hnp : np = ps.length) (hnb : nb = bs.length) (hP : RowG KPl w ap ps) (hP' : RowG KPl w ap' ps) (hK : RowG KBk w ab bs) (hK' : RowG KBk w ab' bs) (hl : np ≤ 9000000000) (hl' : nb ≤ 9000000000) :
    Calls Tryz.prog 40 #[.agg #[.slice ap np cp, .slice ab nb cb], .agg #[.slice ap' np cp', .slice ab' nb cb']] w fun e w' => e = .returned (.bool true) ∧ Below w.heap.size w w' := by
  have HTP := hidP (fun W h => eqPoolS_same ap ap' np cp cp' ps W hnp (hP.later h) (hP'.later h) hl)
  have HTB := hidP (fun W h => eqBlockS_same ab ab' nb cb cb' bs W hnb (hK.later h) (hK'.later h) hl')
  clear hP hP' hK hK' hnp hnb
  go_enter Tryz.func40, Tryz.ntmps40
  go_wp2_with fail
  refine (HTP.out _ ?_).mono ?_
  · repeat (first | with_reducible exact Below.refl _ _ | (with_reducible refine Below.drew ?_) | (with_reducible refine Below.alloc ?_ ?_ _; rotate_left; (focus (first | omega | (simp; omega) | (simp; done)))) | (with_reducible refine Below.setCell ?_ ?_ _; rotate_left; (focus (first | omega | (simp; omega) | (simp; done)))))
  rintro e w1 ⟨rfl, hb1⟩
  have hz1 := hb1.size
  try simp at hz1
  have f10 : w.heap.size < w1.heap.size := by omega
  have f11 : w.heap.size + 1 < w1.heap.size := by omega
  refine olds_k (w.heap.size + 2) hb1 ?_ ?_
  · first | omega | (simp; omega) | (simp; done)
  intro hc1 hf1
  go_wp2_with fail
  refine (HTB.out _ ?_).mono ?_
  · repeat (first | with_reducible exact Below.refl _ _ | (with_reducible refine Below.drew ?_) | (with_reducible refine Below.alloc ?_ ?_ _; rotate_left; (focus (first | omega | (simp; omega) | (simp; done)))) | (with_reducible refine Below.setCell ?_ ?_ _; rotate_left; (focus (first | omega | (simp; omega) | (simp; done)))) | (with_reducible refine Below.trans ?_ (hb1.mono ?_); rotate_left; (focus (first | omega | (simp; omega) | (simp; done)))))
  rintro e w2 ⟨rfl, hb2⟩
  go_wp2_with fail
  go_ret
  refine ⟨rfl, ?_⟩
  repeat (first | with_reducible exact Below.refl _ _ | (with_reducible refine Below.drew ?_) | (with_reducible refine Below.alloc ?_ ?_ _; rotate_left; (focus (first | omega | (simp; omega) | (simp; done)))) | (with_reducible refine Below.setCell ?_ ?_ _; rotate_left; (focus (first | omega | (simp; omega) | (simp; done)))) | (with_reducible refine Below.trans ?_ (hb2.mono ?_); rotate_left; (focus (first | omega | (simp; omega) | (simp; done)))) | (with_reducible refine Below.trans ?_ (hb1.mono ?_); rotate_left; (focus (first | omega | (simp; omega) | (simp; done)))))

end Go.Proofs.YtngcbhbcocnbeaaGreat
namespace Go.Proofs.YtngcbhbcocnbeaaGreat
open Go.ChangeShapes Go.WideShapes Go.ChangeAt Go.RowKit Go.Joins Go.Deep

structure Ss where
  i : Int
  l : Int
  t : ByteArray
  u : Int
def Ss.cs (q : Ss) : List Value := [.int .i64 q.i, .int .i64 q.l, .string q.t, .int .i64 q.u]
def Ss.zero : Ss := ⟨0, 0, ⟨#[]⟩, 0⟩
def KSs : Kd Ss := ⟨4, Ss.cs, fun _ => rfl, fun x u h => by
  simp [Ss.cs] at h
  rcases h with rfl | rfl | rfl | rfl <;> rfl⟩
theorem Tryz.tySs : GTy KSs (.agg #[.int .i64 0, .int .i64 0, .string ⟨#[]⟩, .int .i64 0]) 40 Tryz.prog 44 77 := ⟨Tryz.underlying44, by kernel_rfl, rfl, by omega⟩

theorem rowSs {w : World} {a : Option Addr} {ps : List Ss} (h : RowG KSs w a ps) (j : Nat) (hj : j < ps.length) : ∃ p o q, a = some ⟨p, o, none⟩ ∧ p < w.heap.size ∧ ps[j]? = some q ∧
    w.cell? ⟨p, o + j * 4, none⟩ = some (.int .i64 q.i) ∧ w.cell? ⟨p, o + j * 4 + 1, none⟩ = some (.int .i64 q.l) ∧ w.cell? ⟨p, o + j * 4 + 2, none⟩ = some (.string q.t) ∧ w.cell? ⟨p, o + j * 4 + 3, none⟩ = some (.int .i64 q.u) := by
  obtain ⟨p, o, q, ha, hp, hq, c⟩ := h j hj
  exact ⟨p, o, q, ha, hp, hq, c 0 _ rfl, c 1 _ rfl, c 2 _ rfl, c 3 _ rfl⟩
theorem rowSs0 {w : World} {g n cap B : Nat} {t : TypeId} {ps : List Ss} (h : OwnG KSs t w B (.slice (some ⟨g, 0, none⟩) n cap) ps) (j : Nat) (hj : j < ps.length) : ∃ q, g < w.heap.size ∧ ps[j]? = some q ∧
    w.cell? ⟨g, j * 4, none⟩ = some (.int .i64 q.i) ∧ w.cell? ⟨g, j * 4 + 1, none⟩ = some (.int .i64 q.l) ∧ w.cell? ⟨g, j * 4 + 2, none⟩ = some (.string q.t) ∧ w.cell? ⟨g, j * 4 + 3, none⟩ = some (.int .i64 q.u) := by
  obtain ⟨p, o, q, ha, hp, hq, c0, c1, c2, c3⟩ := rowSs h.row j hj
  simp only [Option.some.injEq, Addr.mk.injEq, and_true] at ha
  obtain ⟨rfl, rfl⟩ := ha
  rw [Nat.zero_add] at c0 c1 c2 c3
  exact ⟨q, hp, hq, c0, c1, c2, c3⟩
theorem putSs {t : TypeId} {w : World} {B g n cap : Nat} {ps : List Ss} (h : OwnG KSs t w B (.slice (some ⟨g, 0, none⟩) n cap) ps) (hn : n = ps.length) (j : Nat) (hj : j < n) (q : Ss) :
    OwnG KSs t ((((w.setCell ⟨g, j * 4, none⟩ (.int .i64 q.i)).setCell ⟨g, j * 4 + 1, none⟩ (.int .i64 q.l)).setCell ⟨g, j * 4 + 2, none⟩ (.string q.t)).setCell ⟨g, j * 4 + 3, none⟩ (.int .i64 q.u)) B (.slice (some ⟨g, 0, none⟩) n cap) (ps.set j q) := h.put hn j hj q
theorem frzSs {t : TypeId} {w : World} {B g n cap : Nat} {ps : List Ss} (h : OwnG KSs t w B (.slice (some ⟨g, 0, none⟩) n cap) ps) (j : Nat) :
    w.frozen? ⟨g, j * 4, none⟩ = false ∧ w.frozen? ⟨g, j * 4 + 1, none⟩ = false ∧ w.frozen? ⟨g, j * 4 + 2, none⟩ = false ∧ w.frozen? ⟨g, j * 4 + 3, none⟩ = false := ⟨h.frozen _, h.frozen _, h.frozen _, h.frozen _⟩

set_option maxHeartbeats 1000000 in
theorem toSession_any (q : Ss) (w : World) :
    Calls Tryz.prog 93 #[.agg #[.int .i64 q.i, .int .i64 q.l, .string q.t, .int .i64 q.u]] w fun e w' => e = .returned (.agg #[.int .i64 q.i, .int .i64 q.l, .string q.t, .int .i64 q.u]) ∧ Below w.heap.size w w' := by
  go_enter Tryz.func93, Tryz.ntmps93
  go_wp2
  refine bodyPost_ret (v := .agg #[.int .i64 q.i, .int .i64 q.l, .string q.t, .int .i64 q.u]) (by simp [results, Tryz.results93, go_sem]) rfl ⟨rfl, ?_⟩
  repeat (first | with_reducible exact Below.refl _ _ | (with_reducible refine Below.drew ?_) | (with_reducible refine Below.alloc ?_ ?_ _; rotate_left; (focus (first | omega | (simp; omega) | (simp; done)))) | (with_reducible refine Below.setCell ?_ ?_ _; rotate_left; (focus (first | omega | (simp; omega) | (simp; done)))))

set_option maxHeartbeats 1000000 in
theorem eqSession_same (q : Ss) (w : World) :
    Calls Tryz.prog 105 #[.agg #[.int .i64 q.i, .int .i64 q.l, .string q.t, .int .i64 q.u], .agg #[.int .i64 q.i, .int .i64 q.l, .string q.t, .int .i64 q.u]] w fun e w' => e = .returned (.bool true) ∧ Below w.heap.size w w' := by
  go_enter Tryz.func105, Tryz.ntmps105
  go_wp2
  go_ret
  refine ⟨rfl, ?_⟩
  repeat (first | with_reducible exact Below.refl _ _ | (with_reducible refine Below.drew ?_) | (with_reducible refine Below.alloc ?_ ?_ _; rotate_left; (focus (first | omega | (simp; omega) | (simp; done)))) | (with_reducible refine Below.setCell ?_ ?_ _; rotate_left; (focus (first | omega | (simp; omega) | (simp; done)))))

set_option maxHeartbeats 1000000 in
theorem toSessionS_any (a : Option Addr) (n cap : Nat) (ps : List Ss) (w : World) (hn : n = ps.length) (hB : RowG KSs w a ps) (hl : n ≤ 1048576) :
    Calls Tryz.prog 61 #[.slice a n cap] w fun e w' => ∃ g, e = .returned (.slice (some ⟨g, 0, none⟩) n n) ∧ OwnG KSs 77 w' w.heap.size (.slice (some ⟨g, 0, none⟩) n n) ps ∧ Below w.heap.size w w' := by
  obtain ⟨i0, hi, hz0, hz1, hz2⟩ := info_parts Tryz.tySs.2.1
  have HB := hidP hB
  have HN := hidP hn
  clear hB hn
  go_enter Tryz.func61, Tryz.ntmps61
  go_wp2_with (refine wpList_make_full _ rfl (.tmp 6) (.tmp 6) 44 rfl w.heap.size 77 i0 _ 4 Tryz.tySs.1 hi hz0 hz1 .i64 .i64 n n n rfl rfl rfl rfl (by rw [hz2]; omega) (by unfold maxLen; omega) (Nat.le_refl _) ?_; intro w1 hown hgrow)
  have HO : Hid (OwnG KSs 77 w1 w.heap.size (.slice (some ⟨w.heap.size, 0, none⟩) n n) (ps.take 0 ++ List.replicate (ps.length - 0) Ss.zero)) := by
    have hm := made_gen KSs Ss.zero (by show 0 < 4; omega) (.agg #[.int .i64 0, .int .i64 0, .string ⟨#[]⟩, .int .i64 0]) rfl n
    rw [show n * 4 = n * KSs.k from rfl, hm] at hown
    refine hidP ?_
    unfold OwnG
    rw [Nat.sub_zero, List.take_zero, List.nil_append, List.length_replicate, ← HN.out]; exact hown
  have HW : Hid (Below w.heap.size w w1) := (Below.refl _ w).grown hgrow (Nat.le_refl _) (fun k hk => by cases hk)
  clear hown hgrow
  go_loopw [4] (fun t4 wr => ∃ k : Nat, k ≤ n ∧ t4 = .int .i64 k ∧ OwnG KSs 77 wr w.heap.size (.slice (some ⟨w.heap.size, 0, none⟩) n n) (ps.take k ++ List.replicate (ps.length - k) Ss.zero) ∧ Below w.heap.size w wr) (fun t4 _ => n - (intOf t4).toNat)
  case atStart => exact ⟨0, Nat.zero_le _, rfl, HO.out, HW.out⟩
  case round =>
    obtain ⟨k, hk, rfl, hown, hbel⟩ := hrel
    by_cases hlt : k < n
    · obtain ⟨p, o, q, rfl, hp, hq, c0, c1, c2, c3⟩ := rowSs HB.out k (by rw [← HN.out]; exact hlt)
      have d0 := (hbel.cell hp).trans c0
      have d1 := (hbel.cell hp).trans c1
      have d2 := (hbel.cell hp).trans c2
      have d3 := (hbel.cell hp).trans c3
      have HOw := hidP hown
      have HBel := hidP hbel
      have HQ := hidP hq
      clear hown hbel c0 c1 c2 c3 hq HO HW
      go_wp2_with fail
      refine (toSession_any q _).mono ?_
      rintro e w2 ⟨rfl, hb2⟩
      have ho2 := HOw.out.later hb2
      have hlen : n = (ps.take k ++ List.replicate (ps.length - k) Ss.zero).length := by rw [List.length_append, List.length_take, List.length_replicate, HN.out]; have := HN.out; omega
      obtain ⟨f0, f1, f2, f3⟩ := frzSs ho2 k
      have hput' := putSs ho2 hlen k hlt q
      rw [copy_stepG Ss.zero ps k q (by rw [← HN.out]; exact hlt) HQ.out] at hput'
      have HP := hidP hput'
      obtain ⟨q', hp', _, e0, e1, e2, e3⟩ := rowSs0 ho2 k (by rw [← hlen]; exact hlt)
      have HBel2 := hidP (HBel.out.trans (hb2.mono HBel.out.size))
      clear hput' ho2 hb2 HBel HOw d0 d1 d2 d3 hlen
      go_wp2_with fail
      go_roundw
      case rel => exact ⟨k + 1, by omega, by go_num, HP.out, (((HBel2.out.setCell (Nat.le_refl _) _).setCell (Nat.le_refl _) _).setCell (Nat.le_refl _) _).setCell (Nat.le_refl _) _⟩
      case measure => simp [intOf]; omega
    · have hkn : k = n := by omega
      subst hkn
      have HO2 : Hid (OwnG KSs 77 wr w.heap.size (.slice (some ⟨w.heap.size, 0, none⟩) k k) ps) := by
        have e := HN.out
        rw [e, List.take_length, Nat.sub_self, List.replicate_zero, List.append_nil] at hown
        rw [← e] at hown
        exact hidP hown
      have HBel : Hid (Below w.heap.size w wr) := hbel
      clear hown hbel HO HW
      go_wp2
      go_ret
      exact ⟨_, rfl, HO2.out, HBel.out⟩

set_option maxHeartbeats 1000000 in
theorem eqSessionS_same (a b : Option Addr) (n c d : Nat) (ps : List Ss) (w : World) (hn : n = ps.length) (ha : RowG KSs w a ps) (hb : RowG KSs w b ps) (hl : n ≤ 9000000000) :
    Calls Tryz.prog 73 #[.slice a n c, .slice b n d] w fun e w' => e = .returned (.bool true) ∧ Below w.heap.size w w' := by
  have HA := hidP ha
  have HB := hidP hb
  have HN := hidP hn
  clear ha hb hn
  go_enter Tryz.func73, Tryz.ntmps73
  go_wp2
  go_loopw [5] (fun t5 wr => ∃ k : Nat, k ≤ n ∧ t5 = .int .i64 k ∧ Below w.heap.size w wr) (fun t5 _ => n - (intOf t5).toNat)
  case atStart => exact ⟨0, Nat.zero_le _, rfl, Below.refl _ _⟩
  case round =>
    obtain ⟨k, hk, rfl, hbel⟩ := hrel
    have HW := hidP hbel
    by_cases hlt : k < n
    · obtain ⟨p, o, q, rfl, hp, hq, c0, c1, c2, c3⟩ := rowSs HA.out k (by rw [← HN.out]; exact hlt)
      obtain ⟨p', o', q', rfl, hp', hq', d0, d1, d2, d3⟩ := rowSs HB.out k (by rw [← HN.out]; exact hlt)
      rw [hq] at hq'
      cases hq'
      have c0' := (hbel.cell hp).trans c0
      have c1' := (hbel.cell hp).trans c1
      have c2' := (hbel.cell hp).trans c2
      have c3' := (hbel.cell hp).trans c3
      have d0' := (hbel.cell hp').trans d0
      have d1' := (hbel.cell hp').trans d1
      have d2' := (hbel.cell hp').trans d2
      have d3' := (hbel.cell hp').trans d3
      clear c0 c1 c2 c3 d0 d1 d2 d3 hq hbel
      go_wp2_with fail
      go_region_with (first | (go_at_call 105; refine (eqSession_same q _).mono ?_; rintro e w2 ⟨rfl, hb2⟩))
      all_goals
        have HW2 := hidP (HW.out.drew.trans (hb2.mono HW.out.drew.size))
        clear hb2
        go_wp2
        go_roundw
        case rel => exact ⟨k + 1, by omega, by go_num, HW2.out⟩
        case measure => simp [intOf]; omega
    · have hkn : k = n := by omega
      subst hkn
      clear hbel
      go_wp2
      go_ret
      exact ⟨rfl, HW.out⟩

theorem Tryz.cellsSs : Tryz.prog.cellsOf 137 = 4 := by kernel_rfl
/-- One out of its cells. -/
theorem ofSs {H : Type} {enc : TypeId × Value → H} {W : World} {fuel : Nat} {cs : List Value} {x : DataW H × List MemPlace} (hl : cs.length = 4)
    (h : DataW.trod enc Tryz.prog W 0 (fun _ => true) true fuel 137 cs = some x) : ∃ q : Ss, cs = q.cs ∧ q.t.size ≤ 9223372036854775807 := by
  match cs, hl with
  | [c0, c1, c2, c3], _ =>
    obtain ⟨z0, z1, z2, z3, n, hx, _, h0, h1, h2, h3⟩ := trod_struct4 Tryz.underlying137 h
    have ks : Tryz.prog.cellsOf 9 = 1 := by kernel_rfl
    have ki : Tryz.prog.cellsOf 3 = 1 := by kernel_rfl
    simp [ks, ki] at h0 h1 h2 h3
    obtain ⟨y, e0, _, wy⟩ := DataW.trod_int Tryz.underlying3 h0
    obtain ⟨k, e1, _, wk⟩ := DataW.trod_int Tryz.underlying3 h1
    obtain ⟨s, e2, _, ws⟩ := DataW.trod_string Tryz.underlying9 h2
    obtain ⟨u, e3, _, wu⟩ := DataW.trod_int Tryz.underlying3 h3
    simp at e0 e1 e2 e3
    subst e0 e1 e2 e3
    exact ⟨⟨y, k, s, u⟩, rfl, by unfold maxLen at ws; show s.size ≤ _; omega⟩


set_option maxRecDepth 100000 in
/-- The things out of the reading of a row of them. -/
theorem openSs {H : Type} {enc : TypeId × Value → H} {W : World} {a : Option Addr} {len cap : Nat} {d : DataW H} {p : List MemPlace}
    (h : DataW.Trod enc Tryz.prog W 0 (fun _ => true) true 29 (.slice a len cap) d p) : ∃ ps : List Ss, ps.length = len ∧ len ≤ 9223372036854775807 ∧ RowG KSs W a ps ∧ ∀ q ∈ ps, q.t.size ≤ 9223372036854775807 := by
  obtain ⟨fuel, hf⟩ := h
  rcases open_slice Tryz.underlying29 hf with ⟨hcs, _⟩ | ⟨a', len', cap', m, n, D, Plc, hcs, _, hl, hmx, hm, _, hV⟩
  · simp [Value.cells] at hcs
    obtain ⟨rfl, rfl, rfl⟩ := hcs
    exact ⟨[], rfl, by omega, RowG.nil _ _ _, fun _ h => by cases h⟩
  · simp [Value.cells] at hcs
    obtain ⟨rfl, rfl, rfl⟩ := hcs
    suffices h9 : ∃ ps : List Ss, ps.length = len ∧ RowG KSs W (some a') ps ∧ ∀ q ∈ ps, q.t.size ≤ 9223372036854775807 by
      obtain ⟨ps, h1, h2⟩ := h9
      exact ⟨ps, h1, by unfold maxLen at hmx; omega, h2⟩
    refine rowsG_of2 (E := fun q : Ss => q.t.size ≤ 9223372036854775807) _ _ fun j hj => ?_
    simp at hm
    obtain ⟨cs', h1, h2⟩ := hV j (by omega)
    rw [Tryz.cellsSs] at h1
    obtain ⟨_, hlen, hcell⟩ := World.cells?_some h1
    obtain ⟨q, rfl, hq9⟩ := ofSs hlen h2
    obtain ⟨p', o', sp⟩ := a'
    cases sp with
    | some r =>
      exfalso
      obtain ⟨cs0, g1, g2⟩ := hV 0 (by omega)
      rw [Tryz.cellsSs] at g1
      obtain ⟨_, glen, gcell⟩ := World.cells?_some g1
      obtain ⟨q0, rfl, _⟩ := ofSs glen g2
      have h0 := gcell 0 (by omega)
      rw [Nat.zero_mul, show Addr.add (Addr.add ⟨p', o', some r⟩ 0) 0 = ⟨p', o', some r⟩ from rfl] at h0
      unfold World.cell? at h0
      split at h0
      · simp [Ss.cs] at h0
      · cases h0
    | none =>
      have ea : ∀ i k : Nat, Addr.add (Addr.add ⟨p', o', none⟩ i) k = ⟨p', o' + i + k, none⟩ := fun i k => by
        have ea1 : ∀ (o k : Nat), Addr.add ⟨p', o, none⟩ k = ⟨p', o + k, none⟩ := fun o k => by unfold Addr.add; split <;> simp_all
        rw [ea1, ea1]
      have hall : ∀ i v, (KSs.cs q)[i]? = some v → W.cell? ⟨p', o' + j * KSs.k + i, none⟩ = some v := fun i v hv => by
        have hi : i < 4 := by
          rcases Nat.lt_or_ge i (KSs.cs q).length with h1 | h1
          · exact h1
          · rw [List.getElem?_eq_none h1] at hv; cases hv
        have e0 := hcell i hi
        rw [ea] at e0
        exact e0.trans hv
      exact ⟨p', o', q, rfl, World.block_lt_of_cell? W _ (hall 0 _ rfl), hall, hq9⟩

end Go.Proofs.YtngcbhbcocnbeaaGreat
namespace Go.Proofs.YtngcbhbcocnbeaaGreat
open Go.ChangeShapes Go.WideShapes Go.ChangeAt Go.RowKit Go.Joins Go.Deep

structure Ad where
  s : Bool
  H : BitVec 64
  L : BitVec 64
def Ad.key (a : Ad) : Nat := keyN a.s a.H a.L
def Ad.ok (a : Ad) : Bool := okB a.s a.H.toInt a.L.toInt
structure Ls where
  a : Ad
  t : ByteArray
  k : Int
  u : Int
def Ls.cs (q : Ls) : List Value := [.bool q.a.s, .int .i64 q.a.H.toInt, .int .i64 q.a.L.toInt, .string q.t, .int .i64 q.k, .int .i64 q.u]
def Ls.zero : Ls := ⟨⟨false, 0, 0⟩, ⟨#[]⟩, 0, 0⟩
def KLs : Kd Ls := ⟨6, Ls.cs, fun _ => rfl, fun x u h => by
  simp [Ls.cs] at h
  rcases h with rfl | rfl | rfl | rfl | rfl | rfl <;> rfl⟩
theorem Tryz.tyLs : GTy KLs (.agg #[.bool false, .int .i64 0, .int .i64 0, .string ⟨#[]⟩, .int .i64 0, .int .i64 0]) 56 Tryz.prog 41 74 := ⟨Tryz.underlying41, by kernel_rfl, rfl, by omega⟩

theorem rowLs {w : World} {a : Option Addr} {ps : List Ls} (h : RowG KLs w a ps) (j : Nat) (hj : j < ps.length) : ∃ p o q, a = some ⟨p, o, none⟩ ∧ p < w.heap.size ∧ ps[j]? = some q ∧
    w.cell? ⟨p, o + j * 6, none⟩ = some (.bool q.a.s) ∧ w.cell? ⟨p, o + j * 6 + 1, none⟩ = some (.int .i64 q.a.H.toInt) ∧ w.cell? ⟨p, o + j * 6 + 2, none⟩ = some (.int .i64 q.a.L.toInt) ∧ w.cell? ⟨p, o + j * 6 + 3, none⟩ = some (.string q.t) ∧ w.cell? ⟨p, o + j * 6 + 4, none⟩ = some (.int .i64 q.k) ∧ w.cell? ⟨p, o + j * 6 + 5, none⟩ = some (.int .i64 q.u) := by
  obtain ⟨p, o, q, ha, hp, hq, c⟩ := h j hj
  exact ⟨p, o, q, ha, hp, hq, c 0 _ rfl, c 1 _ rfl, c 2 _ rfl, c 3 _ rfl, c 4 _ rfl, c 5 _ rfl⟩
theorem rowLs0 {w : World} {g n cap B : Nat} {t : TypeId} {ps : List Ls} (h : OwnG KLs t w B (.slice (some ⟨g, 0, none⟩) n cap) ps) (j : Nat) (hj : j < ps.length) : ∃ q, g < w.heap.size ∧ ps[j]? = some q ∧
    w.cell? ⟨g, j * 6, none⟩ = some (.bool q.a.s) ∧ w.cell? ⟨g, j * 6 + 1, none⟩ = some (.int .i64 q.a.H.toInt) ∧ w.cell? ⟨g, j * 6 + 2, none⟩ = some (.int .i64 q.a.L.toInt) ∧ w.cell? ⟨g, j * 6 + 3, none⟩ = some (.string q.t) ∧ w.cell? ⟨g, j * 6 + 4, none⟩ = some (.int .i64 q.k) ∧ w.cell? ⟨g, j * 6 + 5, none⟩ = some (.int .i64 q.u) := by
  obtain ⟨p, o, q, ha, hp, hq, c0, c1, c2, c3, c4, c5⟩ := rowLs h.row j hj
  simp only [Option.some.injEq, Addr.mk.injEq, and_true] at ha
  obtain ⟨rfl, rfl⟩ := ha
  rw [Nat.zero_add] at c0 c1 c2 c3 c4 c5
  exact ⟨q, hp, hq, c0, c1, c2, c3, c4, c5⟩
theorem putLs {t : TypeId} {w : World} {B g n cap : Nat} {ps : List Ls} (h : OwnG KLs t w B (.slice (some ⟨g, 0, none⟩) n cap) ps) (hn : n = ps.length) (j : Nat) (hj : j < n) (q : Ls) :
    OwnG KLs t ((((((w.setCell ⟨g, j * 6, none⟩ (.bool q.a.s)).setCell ⟨g, j * 6 + 1, none⟩ (.int .i64 q.a.H.toInt)).setCell ⟨g, j * 6 + 2, none⟩ (.int .i64 q.a.L.toInt)).setCell ⟨g, j * 6 + 3, none⟩ (.string q.t)).setCell ⟨g, j * 6 + 4, none⟩ (.int .i64 q.k)).setCell ⟨g, j * 6 + 5, none⟩ (.int .i64 q.u)) B (.slice (some ⟨g, 0, none⟩) n cap) (ps.set j q) := h.put hn j hj q
theorem frzLs {t : TypeId} {w : World} {B g n cap : Nat} {ps : List Ls} (h : OwnG KLs t w B (.slice (some ⟨g, 0, none⟩) n cap) ps) (j : Nat) :
    w.frozen? ⟨g, j * 6, none⟩ = false ∧ w.frozen? ⟨g, j * 6 + 1, none⟩ = false ∧ w.frozen? ⟨g, j * 6 + 2, none⟩ = false ∧ w.frozen? ⟨g, j * 6 + 3, none⟩ = false ∧ w.frozen? ⟨g, j * 6 + 4, none⟩ = false ∧ w.frozen? ⟨g, j * 6 + 5, none⟩ = false := ⟨h.frozen _, h.frozen _, h.frozen _, h.frozen _, h.frozen _, h.frozen _⟩

set_option maxHeartbeats 1000000 in
theorem toLease_any (q : Ls) (w : World) :
    Calls Tryz.prog 92 #[.agg #[.bool q.a.s, .int .i64 q.a.H.toInt, .int .i64 q.a.L.toInt, .string q.t, .int .i64 q.k, .int .i64 q.u]] w fun e w' => e = .returned (.agg #[.bool q.a.s, .int .i64 q.a.H.toInt, .int .i64 q.a.L.toInt, .string q.t, .int .i64 q.k, .int .i64 q.u]) ∧ Below w.heap.size w w' := by
  go_enter Tryz.func92, Tryz.ntmps92
  go_wp2_with fail
  refine (toAddr_any q.a.s q.a.H.toInt q.a.L.toInt _).mono ?_
  rintro e w1 ⟨rfl, hb1⟩
  have hz1 := hb1.size
  try simp at hz1
  have f10 : w.heap.size < w1.heap.size := by omega
  have f11 : w.heap.size + 1 < w1.heap.size := by omega
  have f12 : w.heap.size + 2 < w1.heap.size := by omega
  refine olds_k (w.heap.size + 3) hb1 ?_ ?_
  · first | omega | (simp; omega) | (simp; done)
  intro hc1 hf1
  go_wp2_with fail
  refine bodyPost_ret (v := .agg #[.bool q.a.s, .int .i64 q.a.H.toInt, .int .i64 q.a.L.toInt, .string q.t, .int .i64 q.k, .int .i64 q.u]) (by simp [results, Tryz.results92, go_sem, hc1]) rfl ⟨rfl, ?_⟩
  repeat (first | with_reducible exact Below.refl _ _ | (with_reducible refine Below.drew ?_) | (with_reducible refine Below.alloc ?_ ?_ _; rotate_left; (focus (first | omega | (simp; omega) | (simp; done)))) | (with_reducible refine Below.setCell ?_ ?_ _; rotate_left; (focus (first | omega | (simp; omega) | (simp; done)))) | (with_reducible refine Below.trans ?_ (hb1.mono ?_); rotate_left; (focus (first | omega | (simp; omega) | (simp; done)))))

set_option maxHeartbeats 1000000 in
theorem eqLease_same (q : Ls) (w : World) :
    Calls Tryz.prog 104 #[.agg #[.bool q.a.s, .int .i64 q.a.H.toInt, .int .i64 q.a.L.toInt, .string q.t, .int .i64 q.k, .int .i64 q.u], .agg #[.bool q.a.s, .int .i64 q.a.H.toInt, .int .i64 q.a.L.toInt, .string q.t, .int .i64 q.k, .int .i64 q.u]] w fun e w' => e = .returned (.bool true) ∧ Below w.heap.size w w' := by
  go_enter Tryz.func104, Tryz.ntmps104
  go_wp2_with fail
  refine (eqA_same q.a.s q.a.H.toInt q.a.L.toInt _).mono ?_
  rintro e w1 ⟨rfl, hb1⟩
  have hz1 := hb1.size
  try simp at hz1
  have f10 : w.heap.size < w1.heap.size := by omega
  have f11 : w.heap.size + 1 < w1.heap.size := by omega
  refine olds_k (w.heap.size + 2) hb1 ?_ ?_
  · first | omega | (simp; omega) | (simp; done)
  intro hc1 hf1
  go_wp2_with fail
  go_ret
  refine ⟨rfl, ?_⟩
  repeat (first | with_reducible exact Below.refl _ _ | (with_reducible refine Below.drew ?_) | (with_reducible refine Below.alloc ?_ ?_ _; rotate_left; (focus (first | omega | (simp; omega) | (simp; done)))) | (with_reducible refine Below.setCell ?_ ?_ _; rotate_left; (focus (first | omega | (simp; omega) | (simp; done)))) | (with_reducible refine Below.trans ?_ (hb1.mono ?_); rotate_left; (focus (first | omega | (simp; omega) | (simp; done)))))

set_option maxHeartbeats 1000000 in
theorem toLeaseS_any (a : Option Addr) (n cap : Nat) (ps : List Ls) (w : World) (hn : n = ps.length) (hB : RowG KLs w a ps) (hl : n ≤ 1048576) :
    Calls Tryz.prog 60 #[.slice a n cap] w fun e w' => ∃ g, e = .returned (.slice (some ⟨g, 0, none⟩) n n) ∧ OwnG KLs 74 w' w.heap.size (.slice (some ⟨g, 0, none⟩) n n) ps ∧ Below w.heap.size w w' := by
  obtain ⟨i0, hi, hz0, hz1, hz2⟩ := info_parts Tryz.tyLs.2.1
  have HB := hidP hB
  have HN := hidP hn
  clear hB hn
  go_enter Tryz.func60, Tryz.ntmps60
  go_wp2_with (refine wpList_make_full _ rfl (.tmp 6) (.tmp 6) 41 rfl w.heap.size 74 i0 _ 6 Tryz.tyLs.1 hi hz0 hz1 .i64 .i64 n n n rfl rfl rfl rfl (by rw [hz2]; omega) (by unfold maxLen; omega) (Nat.le_refl _) ?_; intro w1 hown hgrow)
  have HO : Hid (OwnG KLs 74 w1 w.heap.size (.slice (some ⟨w.heap.size, 0, none⟩) n n) (ps.take 0 ++ List.replicate (ps.length - 0) Ls.zero)) := by
    have hm := made_gen KLs Ls.zero (by show 0 < 6; omega) (.agg #[.bool false, .int .i64 0, .int .i64 0, .string ⟨#[]⟩, .int .i64 0, .int .i64 0]) rfl n
    rw [show n * 6 = n * KLs.k from rfl, hm] at hown
    refine hidP ?_
    unfold OwnG
    rw [Nat.sub_zero, List.take_zero, List.nil_append, List.length_replicate, ← HN.out]; exact hown
  have HW : Hid (Below w.heap.size w w1) := (Below.refl _ w).grown hgrow (Nat.le_refl _) (fun k hk => by cases hk)
  clear hown hgrow
  go_loopw [4] (fun t4 wr => ∃ k : Nat, k ≤ n ∧ t4 = .int .i64 k ∧ OwnG KLs 74 wr w.heap.size (.slice (some ⟨w.heap.size, 0, none⟩) n n) (ps.take k ++ List.replicate (ps.length - k) Ls.zero) ∧ Below w.heap.size w wr) (fun t4 _ => n - (intOf t4).toNat)
  case atStart => exact ⟨0, Nat.zero_le _, rfl, HO.out, HW.out⟩
  case round =>
    obtain ⟨k, hk, rfl, hown, hbel⟩ := hrel
    by_cases hlt : k < n
    · obtain ⟨p, o, q, rfl, hp, hq, c0, c1, c2, c3, c4, c5⟩ := rowLs HB.out k (by rw [← HN.out]; exact hlt)
      have d0 := (hbel.cell hp).trans c0
      have d1 := (hbel.cell hp).trans c1
      have d2 := (hbel.cell hp).trans c2
      have d3 := (hbel.cell hp).trans c3
      have d4 := (hbel.cell hp).trans c4
      have d5 := (hbel.cell hp).trans c5
      have HOw := hidP hown
      have HBel := hidP hbel
      have HQ := hidP hq
      clear hown hbel c0 c1 c2 c3 c4 c5 hq HO HW
      go_wp2_with fail
      refine (toLease_any q _).mono ?_
      rintro e w2 ⟨rfl, hb2⟩
      have ho2 := HOw.out.later hb2
      have hlen : n = (ps.take k ++ List.replicate (ps.length - k) Ls.zero).length := by rw [List.length_append, List.length_take, List.length_replicate, HN.out]; have := HN.out; omega
      obtain ⟨f0, f1, f2, f3, f4, f5⟩ := frzLs ho2 k
      have hput' := putLs ho2 hlen k hlt q
      rw [copy_stepG Ls.zero ps k q (by rw [← HN.out]; exact hlt) HQ.out] at hput'
      have HP := hidP hput'
      obtain ⟨q', hp', _, e0, e1, e2, e3, e4, e5⟩ := rowLs0 ho2 k (by rw [← hlen]; exact hlt)
      have HBel2 := hidP (HBel.out.trans (hb2.mono HBel.out.size))
      clear hput' ho2 hb2 HBel HOw d0 d1 d2 d3 d4 d5 hlen
      go_wp2_with fail
      go_roundw
      case rel => exact ⟨k + 1, by omega, by go_num, HP.out, (((((HBel2.out.setCell (Nat.le_refl _) _).setCell (Nat.le_refl _) _).setCell (Nat.le_refl _) _).setCell (Nat.le_refl _) _).setCell (Nat.le_refl _) _).setCell (Nat.le_refl _) _⟩
      case measure => simp [intOf]; omega
    · have hkn : k = n := by omega
      subst hkn
      have HO2 : Hid (OwnG KLs 74 wr w.heap.size (.slice (some ⟨w.heap.size, 0, none⟩) k k) ps) := by
        have e := HN.out
        rw [e, List.take_length, Nat.sub_self, List.replicate_zero, List.append_nil] at hown
        rw [← e] at hown
        exact hidP hown
      have HBel : Hid (Below w.heap.size w wr) := hbel
      clear hown hbel HO HW
      go_wp2
      go_ret
      exact ⟨_, rfl, HO2.out, HBel.out⟩

set_option maxHeartbeats 1000000 in
theorem eqLeaseS_same (a b : Option Addr) (n c d : Nat) (ps : List Ls) (w : World) (hn : n = ps.length) (ha : RowG KLs w a ps) (hb : RowG KLs w b ps) (hl : n ≤ 9000000000) :
    Calls Tryz.prog 72 #[.slice a n c, .slice b n d] w fun e w' => e = .returned (.bool true) ∧ Below w.heap.size w w' := by
  have HA := hidP ha
  have HB := hidP hb
  have HN := hidP hn
  clear ha hb hn
  go_enter Tryz.func72, Tryz.ntmps72
  go_wp2
  go_loopw [5] (fun t5 wr => ∃ k : Nat, k ≤ n ∧ t5 = .int .i64 k ∧ Below w.heap.size w wr) (fun t5 _ => n - (intOf t5).toNat)
  case atStart => exact ⟨0, Nat.zero_le _, rfl, Below.refl _ _⟩
  case round =>
    obtain ⟨k, hk, rfl, hbel⟩ := hrel
    have HW := hidP hbel
    by_cases hlt : k < n
    · obtain ⟨p, o, q, rfl, hp, hq, c0, c1, c2, c3, c4, c5⟩ := rowLs HA.out k (by rw [← HN.out]; exact hlt)
      obtain ⟨p', o', q', rfl, hp', hq', d0, d1, d2, d3, d4, d5⟩ := rowLs HB.out k (by rw [← HN.out]; exact hlt)
      rw [hq] at hq'
      cases hq'
      have c0' := (hbel.cell hp).trans c0
      have c1' := (hbel.cell hp).trans c1
      have c2' := (hbel.cell hp).trans c2
      have c3' := (hbel.cell hp).trans c3
      have c4' := (hbel.cell hp).trans c4
      have c5' := (hbel.cell hp).trans c5
      have d0' := (hbel.cell hp').trans d0
      have d1' := (hbel.cell hp').trans d1
      have d2' := (hbel.cell hp').trans d2
      have d3' := (hbel.cell hp').trans d3
      have d4' := (hbel.cell hp').trans d4
      have d5' := (hbel.cell hp').trans d5
      clear c0 c1 c2 c3 c4 c5 d0 d1 d2 d3 d4 d5 hq hbel
      go_wp2_with fail
      go_region_with (first | (go_at_call 104; refine (eqLease_same q _).mono ?_; rintro e w2 ⟨rfl, hb2⟩))
      all_goals
        have HW2 := hidP (HW.out.drew.trans (hb2.mono HW.out.drew.size))
        clear hb2
        go_wp2
        go_roundw
        case rel => exact ⟨k + 1, by omega, by go_num, HW2.out⟩
        case measure => simp [intOf]; omega
    · have hkn : k = n := by omega
      subst hkn
      clear hbel
      go_wp2
      go_ret
      exact ⟨rfl, HW.out⟩

theorem Tryz.cellsLs : Tryz.prog.cellsOf 135 = 6 := by kernel_rfl
theorem wfA {x : Int} (h : (Lit.int .i64 x).wf = true) : (BitVec.ofInt 64 x).toInt = x := by
  have h2 : -9223372036854775808 ≤ x ∧ x ≤ 9223372036854775807 := wf_bdC h
  rw [BitVec.toInt_ofInt]
  exact Int.bmod_eq_of_le (by omega) (by omega)
theorem adOf {H : Type} {enc : TypeId × Value → H} {W : World} {fuel : Nat} {c0 c1 c2 : Value} {x : DataW H × List MemPlace}
    (h : DataW.trod enc Tryz.prog W 0 (fun _ => true) true fuel 128 [c0, c1, c2] = some x) : ∃ a : Ad, c0 = .bool a.s ∧ c1 = .int .i64 a.H.toInt ∧ c2 = .int .i64 a.L.toInt := by
  obtain ⟨z0, z1, z2, n, hx, _, h0, h1, h2⟩ := trod_struct3 Tryz.underlying128 h
  have kb : Tryz.prog.cellsOf 4 = 1 := by kernel_rfl
  have ki : Tryz.prog.cellsOf 3 = 1 := by kernel_rfl
  simp [kb, ki] at h0 h1 h2
  obtain ⟨b, e0, _⟩ := DataW.trod_bool Tryz.underlying4 h0
  obtain ⟨y, e1, _, wy⟩ := DataW.trod_int Tryz.underlying3 h1
  obtain ⟨y2, e2, _, wy2⟩ := DataW.trod_int Tryz.underlying3 h2
  simp at e0 e1 e2
  subst e0 e1 e2
  exact ⟨⟨b, BitVec.ofInt 64 y, BitVec.ofInt 64 y2⟩, rfl, by rw [wfA wy], by rw [wfA wy2]⟩
/-- One out of its cells. -/
theorem ofLs {H : Type} {enc : TypeId × Value → H} {W : World} {fuel : Nat} {cs : List Value} {x : DataW H × List MemPlace} (hl : cs.length = 6)
    (h : DataW.trod enc Tryz.prog W 0 (fun _ => true) true fuel 135 cs = some x) : ∃ q : Ls, cs = q.cs ∧ q.t.size ≤ 9223372036854775807 := by
  match cs, hl with
  | [c0, c1, c2, c3, c4, c5], _ =>
    obtain ⟨z0, z1, z2, z3, n, hx, _, h0, h1, h2, h3⟩ := trod_struct4 Tryz.underlying135 h
    have k0 : Tryz.prog.cellsOf 128 = 3 := by kernel_rfl
    have ks : Tryz.prog.cellsOf 9 = 1 := by kernel_rfl
    have ki : Tryz.prog.cellsOf 3 = 1 := by kernel_rfl
    simp [k0, ks, ki] at h0 h1 h2 h3
    obtain ⟨a, rfl, rfl, rfl⟩ := adOf h0
    obtain ⟨y, e1, _, wy⟩ := DataW.trod_string Tryz.underlying9 h1
    obtain ⟨k, e2, _, wk⟩ := DataW.trod_int Tryz.underlying3 h2
    obtain ⟨u, e3, _, wu⟩ := DataW.trod_int Tryz.underlying3 h3
    simp at e1 e2 e3
    subst e1 e2 e3
    exact ⟨⟨a, y, k, u⟩, rfl, by unfold maxLen at wy; show y.size ≤ _; omega⟩


set_option maxRecDepth 100000 in
/-- The things out of the reading of a row of them. -/
theorem openLs {H : Type} {enc : TypeId × Value → H} {W : World} {a : Option Addr} {len cap : Nat} {d : DataW H} {p : List MemPlace}
    (h : DataW.Trod enc Tryz.prog W 0 (fun _ => true) true 26 (.slice a len cap) d p) : ∃ ps : List Ls, ps.length = len ∧ len ≤ 9223372036854775807 ∧ RowG KLs W a ps ∧ ∀ q ∈ ps, q.t.size ≤ 9223372036854775807 := by
  obtain ⟨fuel, hf⟩ := h
  rcases open_slice Tryz.underlying26 hf with ⟨hcs, _⟩ | ⟨a', len', cap', m, n, D, Plc, hcs, _, hl, hmx, hm, _, hV⟩
  · simp [Value.cells] at hcs
    obtain ⟨rfl, rfl, rfl⟩ := hcs
    exact ⟨[], rfl, by omega, RowG.nil _ _ _, fun _ h => by cases h⟩
  · simp [Value.cells] at hcs
    obtain ⟨rfl, rfl, rfl⟩ := hcs
    suffices h9 : ∃ ps : List Ls, ps.length = len ∧ RowG KLs W (some a') ps ∧ ∀ q ∈ ps, q.t.size ≤ 9223372036854775807 by
      obtain ⟨ps, h1, h2⟩ := h9
      exact ⟨ps, h1, by unfold maxLen at hmx; omega, h2⟩
    refine rowsG_of2 (E := fun q : Ls => q.t.size ≤ 9223372036854775807) _ _ fun j hj => ?_
    simp at hm
    obtain ⟨cs', h1, h2⟩ := hV j (by omega)
    rw [Tryz.cellsLs] at h1
    obtain ⟨_, hlen, hcell⟩ := World.cells?_some h1
    obtain ⟨q, rfl, hq9⟩ := ofLs hlen h2
    obtain ⟨p', o', sp⟩ := a'
    cases sp with
    | some r =>
      exfalso
      obtain ⟨cs0, g1, g2⟩ := hV 0 (by omega)
      rw [Tryz.cellsLs] at g1
      obtain ⟨_, glen, gcell⟩ := World.cells?_some g1
      obtain ⟨q0, rfl, _⟩ := ofLs glen g2
      have h0 := gcell 0 (by omega)
      rw [Nat.zero_mul, show Addr.add (Addr.add ⟨p', o', some r⟩ 0) 0 = ⟨p', o', some r⟩ from rfl] at h0
      unfold World.cell? at h0
      split at h0
      · simp [Ls.cs] at h0
      · cases h0
    | none =>
      have ea : ∀ i k : Nat, Addr.add (Addr.add ⟨p', o', none⟩ i) k = ⟨p', o' + i + k, none⟩ := fun i k => by
        have ea1 : ∀ (o k : Nat), Addr.add ⟨p', o, none⟩ k = ⟨p', o + k, none⟩ := fun o k => by unfold Addr.add; split <;> simp_all
        rw [ea1, ea1]
      have hall : ∀ i v, (KLs.cs q)[i]? = some v → W.cell? ⟨p', o' + j * KLs.k + i, none⟩ = some v := fun i v hv => by
        have hi : i < 6 := by
          rcases Nat.lt_or_ge i (KLs.cs q).length with h1 | h1
          · exact h1
          · rw [List.getElem?_eq_none h1] at hv; cases hv
        have e0 := hcell i hi
        rw [ea] at e0
        exact e0.trans hv
      exact ⟨p', o', q, rfl, World.block_lt_of_cell? W _ (hall 0 _ rfl), hall, hq9⟩

end Go.Proofs.YtngcbhbcocnbeaaGreat
namespace Go.Proofs.YtngcbhbcocnbeaaGreat
open Go.RowKit

def okLs (T N : Int) (x : Ls) : Bool := (x.a.ok && ownB x.t) && ((decide (1 ≤ x.k) && decide (x.k ≤ T)) && (decide (N < x.u) && decide (x.u ≤ 1000000000)))
def ascA (r : Option Ad) (a : Ad) : Bool := match r with | none => true | some b => decide (b.key < a.key)
/-- As the program asks it. -/
def leasesF (T N : Int) : Option Ad → List Ls → Bool
  | _, [] => true
  | r, x :: t => (okLs T N x && ascA r x.a) && leasesF T N (some x.a) t
def tokB (ls : List Ls) : Bool := decide ((ls.map (·.k)).Nodup)
def hasTok (k : Int) (ls : List Ls) : Bool := ls.any fun y => y.k == k
/-- As the specification asks it. -/
def leasesS (T N : Int) : List Ls → List Ls → Bool
  | _, [] => true
  | pre, x :: t => (okLs T N x && ascA (pre.getLast?.map (·.a)) x.a) && (!hasTok x.k pre && leasesS T N (pre ++ [x]) t)
def bkB (ls : List Ls) (T N : Int) : Bool := (decide (ls.length ≤ 80) && ((decide (0 ≤ T) && decide (T ≤ 1000000000)) && (decide (0 ≤ N) && decide (N ≤ 1000000000)))) && (leasesF T N none ls && tokB ls)

theorem hasTok_not {k : Int} {ls : List Ls} : hasTok k ls = false ↔ k ∉ ls.map (·.k) := by
  unfold hasTok
  rw [List.any_eq_false]
  constructor
  · intro h hm
    obtain ⟨y, hy, e⟩ := List.mem_map.1 hm
    exact h y hy (by simp [e])
  · intro h y hy hc
    exact h (List.mem_map.2 ⟨y, hy, by simpa using hc⟩)
theorem leases_tail (T N : Int) : ∀ (t pre : List Ls), (pre.map (·.k)).Nodup → leasesS T N pre t = (leasesF T N (pre.getLast?.map (·.a)) t && tokB (pre ++ t))
  | [], pre, hp => by
      unfold leasesS leasesF tokB
      rw [List.append_nil, decide_eq_true hp]; rfl
  | x :: t, pre, hp => by
      unfold leasesS leasesF
      cases hx : (okLs T N x && ascA (pre.getLast?.map (·.a)) x.a)
      · rfl
      · cases ht : hasTok x.k pre
        · have hn := hasTok_not.1 ht
          have hp' : ((pre ++ [x]).map (·.k)).Nodup := by
            rw [List.map_append, List.nodup_append]
            refine ⟨hp, by simp, fun a ha b hb => ?_⟩
            simp at hb
            subst hb
            intro e
            exact hn (e ▸ ha)
          rw [leases_tail T N t (pre ++ [x]) hp', List.getLast?_append, List.append_assoc]
          simp
        · have hd : tokB (pre ++ x :: t) = false := by
            unfold tokB
            apply decide_eq_false
            intro h
            rw [List.map_append, List.nodup_append] at h
            have hm : x.k ∈ pre.map (·.k) := Classical.byContradiction fun hc => by rw [hasTok_not.2 hc] at ht; cases ht
            exact h.2.2 _ hm _ (by simp) rfl
          rw [hd]; simp
theorem leases_same (T N : Int) (ls : List Ls) : leasesS T N [] ls = (leasesF T N none ls && tokB ls) := leases_tail T N ls [] (by simp)

/-- What stands ahead of place k. -/
def prvL (ps : List Ls) : Nat → Option Ad
  | 0 => none
  | j + 1 => (ps[j]?).map (·.a)
theorem prvL_next {ps : List Ls} {k : Nat} {q : Ls} (h : ps[k]? = some q) : prvL ps (k + 1) = some q.a := by show (ps[k]?).map _ = _; rw [h]; rfl
theorem prvL_last (ps : List Ls) : ∀ k, k ≤ ps.length → ((ps.take k).getLast?.map (·.a)) = prvL ps k
  | 0, _ => by simp [prvL]
  | k + 1, h => by
      have e : ps[k]? = some ps[k] := List.getElem?_eq_getElem (by omega)
      rw [List.take_add_one, prvL_next e, e, Option.toList_some, List.getLast?_append, List.getLast?_singleton, Option.some_or]
      rfl
theorem take_at {α : Type} {ps : List α} {k : Nat} {q : α} (h : ps[k]? = some q) : ps.take k ++ [q] = ps.take (k + 1) := by
  rw [List.take_add_one, h]; rfl
theorem okLs_ok {T N : Int} {x : Ls} (h : okLs T N x = true) : x.a.ok = true := by
  unfold okLs at h
  simp only [Bool.and_eq_true] at h
  exact h.1.1

theorem compact_nodup (zs : List Int) : ((Lib.compact (zs.mergeSort fun x y => decide (x ≤ y))).length = zs.length) ↔ zs.Nodup := by
  have hp : (zs.mergeSort fun x y => decide (x ≤ y)).Perm zs := List.mergeSort_perm zs _
  have hs : (zs.mergeSort fun x y => decide (x ≤ y)).Pairwise (fun x y => decide (x ≤ y) = true) := List.pairwise_mergeSort (fun a b c h1 h2 => by simp at *; omega) (fun a b => by simp; omega) zs
  rw [← hp.nodup_iff, ← hp.length_eq]
  generalize zs.mergeSort (fun x y => decide (x ≤ y)) = S at hs
  have hlen : (Lib.compact S).length = ((List.range S.length).filter (Lib.keeps S.toArray)).length := by
    unfold Lib.compact Lib.compactUpTo
    rw [List.length_map]
  have hkp : ∀ j, j + 1 < S.length → (Lib.keeps S.toArray (j + 1) = true ↔ S[j]? ≠ S[j + 1]?) := by
    intro j hj
    have e1 : S[j]? = some S[j] := List.getElem?_eq_getElem (by omega)
    have e2 : S[j + 1]? = some S[j + 1] := List.getElem?_eq_getElem hj
    rw [e1, e2]
    have g1 : S.toArray[j]! = S[j] := by rw [getElem!_pos _ _ (by simp; omega)]; simp
    have g2 : S.toArray[j + 1]! = S[j + 1] := by rw [getElem!_pos _ _ (by simp; omega)]; simp
    unfold Lib.keeps
    rw [Nat.add_sub_cancel, g1, g2, decide_eq_true_eq]
    constructor
    · rintro (h | h)
      · omega
      · intro e; exact h (Option.some.inj e).symm
    · intro h
      exact Or.inr fun e => h (by rw [e])
  constructor
  · intro h
    rw [hlen] at h
    have hall : ∀ j, j < S.length → Lib.keeps S.toArray j = true := by
      intro j hj
      have h2 : ((List.range S.length).filter (Lib.keeps S.toArray)).length = (List.range S.length).length := by rw [h, List.length_range]
      exact (List.length_filter_eq_length_iff.1 h2) j (List.mem_range.2 hj)
    rw [List.nodup_iff_pairwise_ne, List.pairwise_iff_getElem]
    intro i j hi hj hij
    have hs' := List.pairwise_iff_getElem.1 hs
    obtain ⟨J, rfl⟩ : ∃ J, j = J + 1 := ⟨j - 1, by omega⟩
    have n1 := (hkp J hj).1 (hall _ hj)
    rw [List.getElem?_eq_getElem (by omega : J < S.length), List.getElem?_eq_getElem hj] at n1
    have n2 : S[J] ≠ S[J + 1] := fun e => n1 (by rw [e])
    have l1 := hs' J (J + 1) (by omega) hj (by omega)
    simp at l1
    by_cases h3 : i = J
    · subst h3; exact n2
    · have l2 := hs' i J hi (by omega) (by omega)
      simp at l2
      omega
  · intro h
    rw [Lib.compact_all S]
    intro j hj
    cases j with
    | zero => simp [Lib.keeps]
    | succ J =>
      rw [hkp J hj, List.getElem?_eq_getElem (by omega : J < S.length), List.getElem?_eq_getElem hj]
      have := (List.pairwise_iff_getElem.1 (List.nodup_iff_pairwise_ne.1 h)) J (J + 1) (by omega) hj (by omega)
      simpa using this
theorem tok_compact (ls : List Ls) (n : Nat) (hn : n = ls.length) : (((Lib.compact ((ls.map (·.k)).mergeSort fun x y => decide (x ≤ y))).length : Int) == (n : Int)) = tokB ls := by
  have h := compact_nodup (ls.map (·.k))
  rw [List.length_map, ← hn] at h
  unfold tokB
  by_cases hd : (ls.map (·.k)).Nodup
  · rw [decide_eq_true hd, h.2 hd]; simp
  · rw [decide_eq_false hd, beq_eq_false_iff_ne]
    intro e
    exact hd (h.1 (by omega))

end Go.Proofs.YtngcbhbcocnbeaaGreat
