/-
  What held_holds needs, part 2.
-/
import Derived.Test.YtplocbpngikohaaGreatZH1
import Derived.Lib.SmallJoins
import Derived.Deep.RegionWith
import Derived.Deep.DeepCutAuto
import Derived.Deep.RegionHeld3
namespace Go.Proofs.YtplocbpngikohaaGreat
open Go.ChangeShapes Go.WideShapes Go.ChangeAt Go.RowKit Go.Joins Go.Deep

structure Pl where
  p : Pf
  n : Int
def Pl.cs (q : Pl) : List Value := [.bool q.p.s, .int .i64 q.p.H.toInt, .int .i64 q.p.L.toInt, .int .i64 q.p.b, .int .i64 q.n]
def Pl.zero : Pl := ⟨Pf.zero, 0⟩
def KPl : Kd Pl := ⟨5, Pl.cs, fun _ => rfl, fun x u h => by
  simp [Pl.cs] at h
  rcases h with rfl | rfl | rfl | rfl | rfl <;> rfl⟩
theorem Tryz.tyPl : GTy KPl (.agg #[.bool false, .int .i64 0, .int .i64 0, .int .i64 0, .int .i64 0]) 40 Tryz.prog 36 86 := ⟨Tryz.underlying36, by kernel_rfl, rfl, by omega⟩

theorem rowPl {w : World} {a : Option Addr} {ps : List Pl} (h : RowG KPl w a ps) (j : Nat) (hj : j < ps.length) : ∃ p o q, a = some ⟨p, o, none⟩ ∧ p < w.heap.size ∧ ps[j]? = some q ∧
    w.cell? ⟨p, o + j * 5, none⟩ = some (.bool q.p.s) ∧ w.cell? ⟨p, o + j * 5 + 1, none⟩ = some (.int .i64 q.p.H.toInt) ∧ w.cell? ⟨p, o + j * 5 + 2, none⟩ = some (.int .i64 q.p.L.toInt) ∧ w.cell? ⟨p, o + j * 5 + 3, none⟩ = some (.int .i64 q.p.b) ∧ w.cell? ⟨p, o + j * 5 + 4, none⟩ = some (.int .i64 q.n) := by
  obtain ⟨p, o, q, ha, hp, hq, c⟩ := h j hj
  exact ⟨p, o, q, ha, hp, hq, c 0 _ rfl, c 1 _ rfl, c 2 _ rfl, c 3 _ rfl, c 4 _ rfl⟩
theorem rowPl0 {w : World} {g n cap B : Nat} {t : TypeId} {ps : List Pl} (h : OwnG KPl t w B (.slice (some ⟨g, 0, none⟩) n cap) ps) (j : Nat) (hj : j < ps.length) : ∃ q, g < w.heap.size ∧ ps[j]? = some q ∧
    w.cell? ⟨g, j * 5, none⟩ = some (.bool q.p.s) ∧ w.cell? ⟨g, j * 5 + 1, none⟩ = some (.int .i64 q.p.H.toInt) ∧ w.cell? ⟨g, j * 5 + 2, none⟩ = some (.int .i64 q.p.L.toInt) ∧ w.cell? ⟨g, j * 5 + 3, none⟩ = some (.int .i64 q.p.b) ∧ w.cell? ⟨g, j * 5 + 4, none⟩ = some (.int .i64 q.n) := by
  obtain ⟨p, o, q, ha, hp, hq, c0, c1, c2, c3, c4⟩ := rowPl h.row j hj
  simp only [Option.some.injEq, Addr.mk.injEq, and_true] at ha
  obtain ⟨rfl, rfl⟩ := ha
  rw [Nat.zero_add] at c0 c1 c2 c3 c4
  exact ⟨q, hp, hq, c0, c1, c2, c3, c4⟩
theorem putPl {t : TypeId} {w : World} {B g n cap : Nat} {ps : List Pl} (h : OwnG KPl t w B (.slice (some ⟨g, 0, none⟩) n cap) ps) (hn : n = ps.length) (j : Nat) (hj : j < n) (q : Pl) :
    OwnG KPl t (((((w.setCell ⟨g, j * 5, none⟩ (.bool q.p.s)).setCell ⟨g, j * 5 + 1, none⟩ (.int .i64 q.p.H.toInt)).setCell ⟨g, j * 5 + 2, none⟩ (.int .i64 q.p.L.toInt)).setCell ⟨g, j * 5 + 3, none⟩ (.int .i64 q.p.b)).setCell ⟨g, j * 5 + 4, none⟩ (.int .i64 q.n)) B (.slice (some ⟨g, 0, none⟩) n cap) (ps.set j q) := h.put hn j hj q
theorem frzPl {t : TypeId} {w : World} {B g n cap : Nat} {ps : List Pl} (h : OwnG KPl t w B (.slice (some ⟨g, 0, none⟩) n cap) ps) (j : Nat) :
    w.frozen? ⟨g, j * 5, none⟩ = false ∧ w.frozen? ⟨g, j * 5 + 1, none⟩ = false ∧ w.frozen? ⟨g, j * 5 + 2, none⟩ = false ∧ w.frozen? ⟨g, j * 5 + 3, none⟩ = false ∧ w.frozen? ⟨g, j * 5 + 4, none⟩ = false := ⟨h.frozen _, h.frozen _, h.frozen _, h.frozen _, h.frozen _⟩

set_option maxHeartbeats 1000000 in
theorem toPool_any (q : Pl) (w : World) :
    Calls Tryz.prog 67 #[.agg #[.bool q.p.s, .int .i64 q.p.H.toInt, .int .i64 q.p.L.toInt, .int .i64 q.p.b, .int .i64 q.n]] w fun e w' => e = .returned (.agg #[.bool q.p.s, .int .i64 q.p.H.toInt, .int .i64 q.p.L.toInt, .int .i64 q.p.b, .int .i64 q.n]) ∧ Below w.heap.size w w' := by
  go_enter Tryz.func67, Tryz.ntmps67
  go_wp2_with fail
  refine (toPrefix_any q.p.s q.p.H.toInt q.p.L.toInt q.p.b _).mono ?_
  rintro e w1 ⟨rfl, hb1⟩
  have hz1 := hb1.size
  try simp at hz1
  have f10 : w.heap.size < w1.heap.size := by omega
  have f11 : w.heap.size + 1 < w1.heap.size := by omega
  have f12 : w.heap.size + 2 < w1.heap.size := by omega
  refine olds_k (w.heap.size + 3) hb1 ?_ ?_
  · first | omega | (simp; omega) | (simp; done)
  intro hc1 hf1
  go_wp2_with fail
  refine bodyPost_ret (v := .agg #[.bool q.p.s, .int .i64 q.p.H.toInt, .int .i64 q.p.L.toInt, .int .i64 q.p.b, .int .i64 q.n]) (by simp [results, Tryz.results67, go_sem, hc1]) rfl ⟨rfl, ?_⟩
  repeat (first | with_reducible exact Below.refl _ _ | (with_reducible refine Below.drew ?_) | (with_reducible refine Below.alloc ?_ ?_ _; rotate_left; (focus (first | omega | (simp; omega) | (simp; done)))) | (with_reducible refine Below.setCell ?_ ?_ _; rotate_left; (focus (first | omega | (simp; omega) | (simp; done)))) | (with_reducible refine Below.trans ?_ (hb1.mono ?_); rotate_left; (focus (first | omega | (simp; omega) | (simp; done)))))

set_option maxHeartbeats 1000000 in
theorem eqPool_same (q : Pl) (w : World) :
    Calls Tryz.prog 83 #[.agg #[.bool q.p.s, .int .i64 q.p.H.toInt, .int .i64 q.p.L.toInt, .int .i64 q.p.b, .int .i64 q.n], .agg #[.bool q.p.s, .int .i64 q.p.H.toInt, .int .i64 q.p.L.toInt, .int .i64 q.p.b, .int .i64 q.n]] w fun e w' => e = .returned (.bool true) ∧ Below w.heap.size w w' := by
  go_enter Tryz.func83, Tryz.ntmps83
  go_wp2_with fail
  refine (eqP_same q.p.s q.p.H.toInt q.p.L.toInt q.p.b _).mono ?_
  rintro e w1 ⟨rfl, hb1⟩
  have hz1 := hb1.size
  try simp at hz1
  have f10 : w.heap.size < w1.heap.size := by omega
  have f11 : w.heap.size + 1 < w1.heap.size := by omega
  refine olds_k (w.heap.size + 2) hb1 ?_ ?_
  · first | omega | (simp; omega) | (simp; done)
  intro hc1 hf1
  go_wp2_with fail
  go_ret
  refine ⟨rfl, ?_⟩
  repeat (first | with_reducible exact Below.refl _ _ | (with_reducible refine Below.drew ?_) | (with_reducible refine Below.alloc ?_ ?_ _; rotate_left; (focus (first | omega | (simp; omega) | (simp; done)))) | (with_reducible refine Below.setCell ?_ ?_ _; rotate_left; (focus (first | omega | (simp; omega) | (simp; done)))) | (with_reducible refine Below.trans ?_ (hb1.mono ?_); rotate_left; (focus (first | omega | (simp; omega) | (simp; done)))))

set_option maxHeartbeats 1000000 in
theorem toPoolS_any (a : Option Addr) (n cap : Nat) (ps : List Pl) (w : World) (hn : n = ps.length) (hB : RowG KPl w a ps) (hl : n ≤ 1048576) :
    Calls Tryz.prog 45 #[.slice a n cap] w fun e w' => ∃ g, e = .returned (.slice (some ⟨g, 0, none⟩) n n) ∧ OwnG KPl 86 w' w.heap.size (.slice (some ⟨g, 0, none⟩) n n) ps ∧ Below w.heap.size w w' := by
  obtain ⟨i0, hi, hz0, hz1, hz2⟩ := info_parts Tryz.tyPl.2.1
  have HB := hidP hB
  have HN := hidP hn
  clear hB hn
  go_enter Tryz.func45, Tryz.ntmps45
  go_wp2_with (refine wpList_make_full _ rfl (.tmp 6) (.tmp 6) 36 rfl w.heap.size 86 i0 _ 5 Tryz.tyPl.1 hi hz0 hz1 .i64 .i64 n n n rfl rfl rfl rfl (by rw [hz2]; omega) (by unfold maxLen; omega) (Nat.le_refl _) ?_; intro w1 hown hgrow)
  have HO : Hid (OwnG KPl 86 w1 w.heap.size (.slice (some ⟨w.heap.size, 0, none⟩) n n) (ps.take 0 ++ List.replicate (ps.length - 0) Pl.zero)) := by
    have hm := made_gen KPl Pl.zero (by show 0 < 5; omega) (.agg #[.bool false, .int .i64 0, .int .i64 0, .int .i64 0, .int .i64 0]) rfl n
    rw [show n * 5 = n * KPl.k from rfl, hm] at hown
    refine hidP ?_
    unfold OwnG
    rw [Nat.sub_zero, List.take_zero, List.nil_append, List.length_replicate, ← HN.out]; exact hown
  have HW : Hid (Below w.heap.size w w1) := (Below.refl _ w).grown hgrow (Nat.le_refl _) (fun k hk => by cases hk)
  clear hown hgrow
  go_loopw [4] (fun t4 wr => ∃ k : Nat, k ≤ n ∧ t4 = .int .i64 k ∧ OwnG KPl 86 wr w.heap.size (.slice (some ⟨w.heap.size, 0, none⟩) n n) (ps.take k ++ List.replicate (ps.length - k) Pl.zero) ∧ Below w.heap.size w wr) (fun t4 _ => n - (intOf t4).toNat)
  case atStart => exact ⟨0, Nat.zero_le _, rfl, HO.out, HW.out⟩
  case round =>
    obtain ⟨k, hk, rfl, hown, hbel⟩ := hrel
    by_cases hlt : k < n
    · obtain ⟨p, o, q, rfl, hp, hq, c0, c1, c2, c3, c4⟩ := rowPl HB.out k (by rw [← HN.out]; exact hlt)
      have d0 := (hbel.cell hp).trans c0
      have d1 := (hbel.cell hp).trans c1
      have d2 := (hbel.cell hp).trans c2
      have d3 := (hbel.cell hp).trans c3
      have d4 := (hbel.cell hp).trans c4
      have HOw := hidP hown
      have HBel := hidP hbel
      have HQ := hidP hq
      clear hown hbel c0 c1 c2 c3 c4 hq HO HW
      go_wp2_with fail
      refine (toPool_any q _).mono ?_
      rintro e w2 ⟨rfl, hb2⟩
      have ho2 := HOw.out.later hb2
      have hlen : n = (ps.take k ++ List.replicate (ps.length - k) Pl.zero).length := by rw [List.length_append, List.length_take, List.length_replicate, HN.out]; have := HN.out; omega
      obtain ⟨f0, f1, f2, f3, f4⟩ := frzPl ho2 k
      have hput' := putPl ho2 hlen k hlt q
      rw [copy_stepG Pl.zero ps k q (by rw [← HN.out]; exact hlt) HQ.out] at hput'
      have HP := hidP hput'
      obtain ⟨q', hp', _, e0, e1, e2, e3, e4⟩ := rowPl0 ho2 k (by rw [← hlen]; exact hlt)
      have HBel2 := hidP (HBel.out.trans (hb2.mono HBel.out.size))
      clear hput' ho2 hb2 HBel HOw d0 d1 d2 d3 d4 hlen
      go_wp2_with fail
      go_roundw
      case rel => exact ⟨k + 1, by omega, by go_num, HP.out, ((((HBel2.out.setCell (Nat.le_refl _) _).setCell (Nat.le_refl _) _).setCell (Nat.le_refl _) _).setCell (Nat.le_refl _) _).setCell (Nat.le_refl _) _⟩
      case measure => simp [intOf]; omega
    · have hkn : k = n := by omega
      subst hkn
      have HO2 : Hid (OwnG KPl 86 wr w.heap.size (.slice (some ⟨w.heap.size, 0, none⟩) k k) ps) := by
        have e := HN.out
        rw [e, List.take_length, Nat.sub_self, List.replicate_zero, List.append_nil] at hown
        rw [← e] at hown
        exact hidP hown
      have HBel : Hid (Below w.heap.size w wr) := hbel
      clear hown hbel HO HW
      go_wp2
      go_ret
      exact ⟨_, rfl, HO2.out, HBel.out⟩

set_option maxHeartbeats 1000000 in
theorem eqPoolS_same (a b : Option Addr) (n c d : Nat) (ps : List Pl) (w : World) (hn : n = ps.length) (ha : RowG KPl w a ps) (hb : RowG KPl w b ps) (hl : n ≤ 9000000000) :
    Calls Tryz.prog 55 #[.slice a n c, .slice b n d] w fun e w' => e = .returned (.bool true) ∧ Below w.heap.size w w' := by
  have HA := hidP ha
  have HB := hidP hb
  have HN := hidP hn
  clear ha hb hn
  go_enter Tryz.func55, Tryz.ntmps55
  go_wp2
  go_loopw [5] (fun t5 wr => ∃ k : Nat, k ≤ n ∧ t5 = .int .i64 k ∧ Below w.heap.size w wr) (fun t5 _ => n - (intOf t5).toNat)
  case atStart => exact ⟨0, Nat.zero_le _, rfl, Below.refl _ _⟩
  case round =>
    obtain ⟨k, hk, rfl, hbel⟩ := hrel
    have HW := hidP hbel
    by_cases hlt : k < n
    · obtain ⟨p, o, q, rfl, hp, hq, c0, c1, c2, c3, c4⟩ := rowPl HA.out k (by rw [← HN.out]; exact hlt)
      obtain ⟨p', o', q', rfl, hp', hq', d0, d1, d2, d3, d4⟩ := rowPl HB.out k (by rw [← HN.out]; exact hlt)
      rw [hq] at hq'
      cases hq'
      have c0' := (hbel.cell hp).trans c0
      have c1' := (hbel.cell hp).trans c1
      have c2' := (hbel.cell hp).trans c2
      have c3' := (hbel.cell hp).trans c3
      have c4' := (hbel.cell hp).trans c4
      have d0' := (hbel.cell hp').trans d0
      have d1' := (hbel.cell hp').trans d1
      have d2' := (hbel.cell hp').trans d2
      have d3' := (hbel.cell hp').trans d3
      have d4' := (hbel.cell hp').trans d4
      clear c0 c1 c2 c3 c4 d0 d1 d2 d3 d4 hq hbel
      go_wp2_with fail
      go_region_with (first | (go_at_call 83; refine (eqPool_same q _).mono ?_; rintro e w2 ⟨rfl, hb2⟩))
      all_goals
        have HW2 := hidP (HW.out.drew.trans (hb2.mono HW.out.drew.size))
        clear hb2
        go_wp2
        go_roundw
        case rel => exact ⟨k + 1, by omega, by go_num, HW2.out⟩
        case measure => simp [intOf]; omega
    · have hkn : k = n := by omega
      subst hkn
      clear hbel
      go_wp2
      go_ret
      exact ⟨rfl, HW.out⟩

set_option maxHeartbeats 400000 in
theorem szPoolS_any (a : Option Addr) (n cap : Nat) (l : Int) (hl : (n : Int) ≤ l) (hl' : l ≤ 1048576) (w : World) :
    Calls Tryz.prog 31 #[.slice a n cap, .int .i64 l] w fun e w' => e = .returned (.int .i64 (l - n)) ∧ w' = w := by
  have d1 : decide (l - (n : Int) < 0) = false := decide_eq_false (by omega)
  go_enter Tryz.func31, Tryz.ntmps31
  go_wp2
  go_ret
  exact ⟨rfl, rfl⟩
set_option maxHeartbeats 400000 in
theorem szPoolS_big (a : Option Addr) (n cap : Nat) (l : Int) (hl : l < (n : Int)) (h0 : 0 ≤ l) (h9 : n ≤ 9223372036854775807) (w : World) :
    Calls Tryz.prog 31 #[.slice a n cap, .int .i64 l] w fun e w' => e = .returned (.int .i64 (-1)) ∧ w' = w := by
  have d1 : decide (l - (n : Int) < 0) = true := decide_eq_true (by omega)
  go_enter Tryz.func31, Tryz.ntmps31
  go_wp2
  go_ret
  exact ⟨rfl, rfl⟩

theorem Tryz.cellsPl : Tryz.prog.cellsOf 126 = 5 := by kernel_rfl
/-- One out of its five cells. -/
theorem ofPl {H : Type} {enc : TypeId × Value → H} {W : World} {fuel : Nat} {cs : List Value} {x : DataW H × List MemPlace} (hl : cs.length = 5)
    (h : DataW.trod enc Tryz.prog W 0 (fun _ => true) true fuel 126 cs = some x) : ∃ q : Pl, cs = q.cs := by
  match cs, hl with
  | [c0, c1, c2, c3, c4], _ =>
    obtain ⟨z0, z1, n, hx, _, h0, h1⟩ := trod_struct2 Tryz.underlying126 h
    have k0 : Tryz.prog.cellsOf 112 = 4 := by kernel_rfl
    have kl : Tryz.prog.cellsOf 3 = 1 := by kernel_rfl
    simp [k0, kl] at h0 h1
    obtain ⟨p, hp⟩ := pf_of rfl h0
    obtain ⟨y, e1, _, wy⟩ := DataW.trod_int Tryz.underlying3 h1
    simp at e1
    subst e1
    have hp' : [c0, c1, c2, c3] = [.bool p.s, .int .i64 p.H.toInt, .int .i64 p.L.toInt, .int .i64 p.b] := hp
    simp only [List.cons.injEq, and_true] at hp'
    obtain ⟨rfl, rfl, rfl, rfl⟩ := hp'
    exact ⟨⟨p, y⟩, rfl⟩

set_option maxRecDepth 100000 in
/-- The things out of the reading of a row of them. -/
theorem openPl {H : Type} {enc : TypeId × Value → H} {W : World} {a : Option Addr} {len cap : Nat} {d : DataW H} {p : List MemPlace}
    (h : DataW.Trod enc Tryz.prog W 0 (fun _ => true) true 22 (.slice a len cap) d p) : ∃ ps : List Pl, ps.length = len ∧ len ≤ 9223372036854775807 ∧ RowG KPl W a ps := by
  obtain ⟨fuel, hf⟩ := h
  rcases open_slice Tryz.underlying22 hf with ⟨hcs, _⟩ | ⟨a', len', cap', m, n, D, Plc, hcs, _, hl, hmx, hm, _, hV⟩
  · simp [Value.cells] at hcs
    obtain ⟨rfl, rfl, rfl⟩ := hcs
    exact ⟨[], rfl, by omega, RowG.nil _ _ _⟩
  · simp [Value.cells] at hcs
    obtain ⟨rfl, rfl, rfl⟩ := hcs
    suffices h9 : ∃ ps : List Pl, ps.length = len ∧ RowG KPl W (some a') ps by
      obtain ⟨ps, h1, h2⟩ := h9
      exact ⟨ps, h1, by unfold maxLen at hmx; omega, h2⟩
    refine rowsG_of _ _ fun j hj => ?_
    simp at hm
    obtain ⟨cs', h1, h2⟩ := hV j (by omega)
    rw [Tryz.cellsPl] at h1
    obtain ⟨_, hlen, hcell⟩ := World.cells?_some h1
    obtain ⟨q, rfl⟩ := ofPl hlen h2
    obtain ⟨p', o', sp⟩ := a'
    cases sp with
    | some r =>
      exfalso
      obtain ⟨cs0, g1, g2⟩ := hV 0 (by omega)
      rw [Tryz.cellsPl] at g1
      obtain ⟨_, glen, gcell⟩ := World.cells?_some g1
      obtain ⟨q0, rfl⟩ := ofPl glen g2
      have h0 := gcell 0 (by omega)
      rw [Nat.zero_mul, show Addr.add (Addr.add ⟨p', o', some r⟩ 0) 0 = ⟨p', o', some r⟩ from rfl] at h0
      unfold World.cell? at h0
      split at h0
      · simp [Pl.cs] at h0
      · cases h0
    | none =>
      have ea : ∀ i k : Nat, Addr.add (Addr.add ⟨p', o', none⟩ i) k = ⟨p', o' + i + k, none⟩ := fun i k => by
        have ea1 : ∀ (o k : Nat), Addr.add ⟨p', o, none⟩ k = ⟨p', o + k, none⟩ := fun o k => by unfold Addr.add; split <;> simp_all
        rw [ea1, ea1]
      have hall : ∀ i v, (KPl.cs q)[i]? = some v → W.cell? ⟨p', o' + j * KPl.k + i, none⟩ = some v := fun i v hv => by
        have hi : i < 5 := by
          rcases Nat.lt_or_ge i (KPl.cs q).length with h1 | h1
          · exact h1
          · rw [List.getElem?_eq_none h1] at hv; cases hv
        have e0 := hcell i hi
        rw [ea] at e0
        exact e0.trans hv
      exact ⟨p', o', q, rfl, World.block_lt_of_cell? W _ (hall 0 _ rfl), hall⟩

end Go.Proofs.YtplocbpngikohaaGreat
namespace Go.Proofs.YtplocbpngikohaaGreat
open Go.ChangeShapes Go.WideShapes Go.ChangeAt Go.RowKit Go.Joins Go.Deep

structure Bk where
  p : Pf
  t : ByteArray
def Bk.cs (q : Bk) : List Value := [.bool q.p.s, .int .i64 q.p.H.toInt, .int .i64 q.p.L.toInt, .int .i64 q.p.b, .string q.t]
def Bk.zero : Bk := ⟨Pf.zero, ⟨#[]⟩⟩
def KBk : Kd Bk := ⟨5, Bk.cs, fun _ => rfl, fun x u h => by
  simp [Bk.cs] at h
  rcases h with rfl | rfl | rfl | rfl | rfl <;> rfl⟩
theorem Tryz.tyBk : GTy KBk (.agg #[.bool false, .int .i64 0, .int .i64 0, .int .i64 0, .string ⟨#[]⟩]) 48 Tryz.prog 37 67 := ⟨Tryz.underlying37, by kernel_rfl, rfl, by omega⟩

theorem rowBk {w : World} {a : Option Addr} {ps : List Bk} (h : RowG KBk w a ps) (j : Nat) (hj : j < ps.length) : ∃ p o q, a = some ⟨p, o, none⟩ ∧ p < w.heap.size ∧ ps[j]? = some q ∧
    w.cell? ⟨p, o + j * 5, none⟩ = some (.bool q.p.s) ∧ w.cell? ⟨p, o + j * 5 + 1, none⟩ = some (.int .i64 q.p.H.toInt) ∧ w.cell? ⟨p, o + j * 5 + 2, none⟩ = some (.int .i64 q.p.L.toInt) ∧ w.cell? ⟨p, o + j * 5 + 3, none⟩ = some (.int .i64 q.p.b) ∧ w.cell? ⟨p, o + j * 5 + 4, none⟩ = some (.string q.t) := by
  obtain ⟨p, o, q, ha, hp, hq, c⟩ := h j hj
  exact ⟨p, o, q, ha, hp, hq, c 0 _ rfl, c 1 _ rfl, c 2 _ rfl, c 3 _ rfl, c 4 _ rfl⟩
theorem rowBk0 {w : World} {g n cap B : Nat} {t : TypeId} {ps : List Bk} (h : OwnG KBk t w B (.slice (some ⟨g, 0, none⟩) n cap) ps) (j : Nat) (hj : j < ps.length) : ∃ q, g < w.heap.size ∧ ps[j]? = some q ∧
    w.cell? ⟨g, j * 5, none⟩ = some (.bool q.p.s) ∧ w.cell? ⟨g, j * 5 + 1, none⟩ = some (.int .i64 q.p.H.toInt) ∧ w.cell? ⟨g, j * 5 + 2, none⟩ = some (.int .i64 q.p.L.toInt) ∧ w.cell? ⟨g, j * 5 + 3, none⟩ = some (.int .i64 q.p.b) ∧ w.cell? ⟨g, j * 5 + 4, none⟩ = some (.string q.t) := by
  obtain ⟨p, o, q, ha, hp, hq, c0, c1, c2, c3, c4⟩ := rowBk h.row j hj
  simp only [Option.some.injEq, Addr.mk.injEq, and_true] at ha
  obtain ⟨rfl, rfl⟩ := ha
  rw [Nat.zero_add] at c0 c1 c2 c3 c4
  exact ⟨q, hp, hq, c0, c1, c2, c3, c4⟩
theorem putBk {t : TypeId} {w : World} {B g n cap : Nat} {ps : List Bk} (h : OwnG KBk t w B (.slice (some ⟨g, 0, none⟩) n cap) ps) (hn : n = ps.length) (j : Nat) (hj : j < n) (q : Bk) :
    OwnG KBk t (((((w.setCell ⟨g, j * 5, none⟩ (.bool q.p.s)).setCell ⟨g, j * 5 + 1, none⟩ (.int .i64 q.p.H.toInt)).setCell ⟨g, j * 5 + 2, none⟩ (.int .i64 q.p.L.toInt)).setCell ⟨g, j * 5 + 3, none⟩ (.int .i64 q.p.b)).setCell ⟨g, j * 5 + 4, none⟩ (.string q.t)) B (.slice (some ⟨g, 0, none⟩) n cap) (ps.set j q) := h.put hn j hj q
theorem frzBk {t : TypeId} {w : World} {B g n cap : Nat} {ps : List Bk} (h : OwnG KBk t w B (.slice (some ⟨g, 0, none⟩) n cap) ps) (j : Nat) :
    w.frozen? ⟨g, j * 5, none⟩ = false ∧ w.frozen? ⟨g, j * 5 + 1, none⟩ = false ∧ w.frozen? ⟨g, j * 5 + 2, none⟩ = false ∧ w.frozen? ⟨g, j * 5 + 3, none⟩ = false ∧ w.frozen? ⟨g, j * 5 + 4, none⟩ = false := ⟨h.frozen _, h.frozen _, h.frozen _, h.frozen _, h.frozen _⟩

set_option maxHeartbeats 1000000 in
theorem toBlock_any (q : Bk) (w : World) :
    Calls Tryz.prog 68 #[.agg #[.bool q.p.s, .int .i64 q.p.H.toInt, .int .i64 q.p.L.toInt, .int .i64 q.p.b, .string q.t]] w fun e w' => e = .returned (.agg #[.bool q.p.s, .int .i64 q.p.H.toInt, .int .i64 q.p.L.toInt, .int .i64 q.p.b, .string q.t]) ∧ Below w.heap.size w w' := by
  go_enter Tryz.func68, Tryz.ntmps68
  go_wp2_with fail
  refine (toPrefix_any q.p.s q.p.H.toInt q.p.L.toInt q.p.b _).mono ?_
  rintro e w1 ⟨rfl, hb1⟩
  have hz1 := hb1.size
  try simp at hz1
  have f10 : w.heap.size < w1.heap.size := by omega
  have f11 : w.heap.size + 1 < w1.heap.size := by omega
  have f12 : w.heap.size + 2 < w1.heap.size := by omega
  refine olds_k (w.heap.size + 3) hb1 ?_ ?_
  · first | omega | (simp; omega) | (simp; done)
  intro hc1 hf1
  go_wp2_with fail
  refine bodyPost_ret (v := .agg #[.bool q.p.s, .int .i64 q.p.H.toInt, .int .i64 q.p.L.toInt, .int .i64 q.p.b, .string q.t]) (by simp [results, Tryz.results68, go_sem, hc1]) rfl ⟨rfl, ?_⟩
  repeat (first | with_reducible exact Below.refl _ _ | (with_reducible refine Below.drew ?_) | (with_reducible refine Below.alloc ?_ ?_ _; rotate_left; (focus (first | omega | (simp; omega) | (simp; done)))) | (with_reducible refine Below.setCell ?_ ?_ _; rotate_left; (focus (first | omega | (simp; omega) | (simp; done)))) | (with_reducible refine Below.trans ?_ (hb1.mono ?_); rotate_left; (focus (first | omega | (simp; omega) | (simp; done)))))

set_option maxHeartbeats 1000000 in
theorem eqBlock_same (q : Bk) (w : World) :
    Calls Tryz.prog 84 #[.agg #[.bool q.p.s, .int .i64 q.p.H.toInt, .int .i64 q.p.L.toInt, .int .i64 q.p.b, .string q.t], .agg #[.bool q.p.s, .int .i64 q.p.H.toInt, .int .i64 q.p.L.toInt, .int .i64 q.p.b, .string q.t]] w fun e w' => e = .returned (.bool true) ∧ Below w.heap.size w w' := by
  go_enter Tryz.func84, Tryz.ntmps84
  go_wp2_with fail
  refine (eqP_same q.p.s q.p.H.toInt q.p.L.toInt q.p.b _).mono ?_
  rintro e w1 ⟨rfl, hb1⟩
  have hz1 := hb1.size
  try simp at hz1
  have f10 : w.heap.size < w1.heap.size := by omega
  have f11 : w.heap.size + 1 < w1.heap.size := by omega
  refine olds_k (w.heap.size + 2) hb1 ?_ ?_
  · first | omega | (simp; omega) | (simp; done)
  intro hc1 hf1
  go_wp2_with fail
  go_ret
  refine ⟨rfl, ?_⟩
  repeat (first | with_reducible exact Below.refl _ _ | (with_reducible refine Below.drew ?_) | (with_reducible refine Below.alloc ?_ ?_ _; rotate_left; (focus (first | omega | (simp; omega) | (simp; done)))) | (with_reducible refine Below.setCell ?_ ?_ _; rotate_left; (focus (first | omega | (simp; omega) | (simp; done)))) | (with_reducible refine Below.trans ?_ (hb1.mono ?_); rotate_left; (focus (first | omega | (simp; omega) | (simp; done)))))

set_option maxHeartbeats 1000000 in
theorem toBlockS_any (a : Option Addr) (n cap : Nat) (ps : List Bk) (w : World) (hn : n = ps.length) (hB : RowG KBk w a ps) (hl : n ≤ 1048576) :
    Calls Tryz.prog 46 #[.slice a n cap] w fun e w' => ∃ g, e = .returned (.slice (some ⟨g, 0, none⟩) n n) ∧ OwnG KBk 67 w' w.heap.size (.slice (some ⟨g, 0, none⟩) n n) ps ∧ Below w.heap.size w w' := by
  obtain ⟨i0, hi, hz0, hz1, hz2⟩ := info_parts Tryz.tyBk.2.1
  have HB := hidP hB
  have HN := hidP hn
  clear hB hn
  go_enter Tryz.func46, Tryz.ntmps46
  go_wp2_with (refine wpList_make_full _ rfl (.tmp 6) (.tmp 6) 37 rfl w.heap.size 67 i0 _ 5 Tryz.tyBk.1 hi hz0 hz1 .i64 .i64 n n n rfl rfl rfl rfl (by rw [hz2]; omega) (by unfold maxLen; omega) (Nat.le_refl _) ?_; intro w1 hown hgrow)
  have HO : Hid (OwnG KBk 67 w1 w.heap.size (.slice (some ⟨w.heap.size, 0, none⟩) n n) (ps.take 0 ++ List.replicate (ps.length - 0) Bk.zero)) := by
    have hm := made_gen KBk Bk.zero (by show 0 < 5; omega) (.agg #[.bool false, .int .i64 0, .int .i64 0, .int .i64 0, .string ⟨#[]⟩]) rfl n
    rw [show n * 5 = n * KBk.k from rfl, hm] at hown
    refine hidP ?_
    unfold OwnG
    rw [Nat.sub_zero, List.take_zero, List.nil_append, List.length_replicate, ← HN.out]; exact hown
  have HW : Hid (Below w.heap.size w w1) := (Below.refl _ w).grown hgrow (Nat.le_refl _) (fun k hk => by cases hk)
  clear hown hgrow
  go_loopw [4] (fun t4 wr => ∃ k : Nat, k ≤ n ∧ t4 = .int .i64 k ∧ OwnG KBk 67 wr w.heap.size (.slice (some ⟨w.heap.size, 0, none⟩) n n) (ps.take k ++ List.replicate (ps.length - k) Bk.zero) ∧ Below w.heap.size w wr) (fun t4 _ => n - (intOf t4).toNat)
  case atStart => exact ⟨0, Nat.zero_le _, rfl, HO.out, HW.out⟩
  case round =>
    obtain ⟨k, hk, rfl, hown, hbel⟩ := hrel
    by_cases hlt : k < n
    · obtain ⟨p, o, q, rfl, hp, hq, c0, c1, c2, c3, c4⟩ := rowBk HB.out k (by rw [← HN.out]; exact hlt)
      have d0 := (hbel.cell hp).trans c0
      have d1 := (hbel.cell hp).trans c1
      have d2 := (hbel.cell hp).trans c2
      have d3 := (hbel.cell hp).trans c3
      have d4 := (hbel.cell hp).trans c4
      have HOw := hidP hown
      have HBel := hidP hbel
      have HQ := hidP hq
      clear hown hbel c0 c1 c2 c3 c4 hq HO HW
      go_wp2_with fail
      refine (toBlock_any q _).mono ?_
      rintro e w2 ⟨rfl, hb2⟩
      have ho2 := HOw.out.later hb2
      have hlen : n = (ps.take k ++ List.replicate (ps.length - k) Bk.zero).length := by rw [List.length_append, List.length_take, List.length_replicate, HN.out]; have := HN.out; omega
      obtain ⟨f0, f1, f2, f3, f4⟩ := frzBk ho2 k
      have hput' := putBk ho2 hlen k hlt q
      rw [copy_stepG Bk.zero ps k q (by rw [← HN.out]; exact hlt) HQ.out] at hput'
      have HP := hidP hput'
      obtain ⟨q', hp', _, e0, e1, e2, e3, e4⟩ := rowBk0 ho2 k (by rw [← hlen]; exact hlt)
      have HBel2 := hidP (HBel.out.trans (hb2.mono HBel.out.size))
      clear hput' ho2 hb2 HBel HOw d0 d1 d2 d3 d4 hlen
      go_wp2_with fail
      go_roundw
      case rel => exact ⟨k + 1, by omega, by go_num, HP.out, ((((HBel2.out.setCell (Nat.le_refl _) _).setCell (Nat.le_refl _) _).setCell (Nat.le_refl _) _).setCell (Nat.le_refl _) _).setCell (Nat.le_refl _) _⟩
      case measure => simp [intOf]; omega
    · have hkn : k = n := by omega
      subst hkn
      have HO2 : Hid (OwnG KBk 67 wr w.heap.size (.slice (some ⟨w.heap.size, 0, none⟩) k k) ps) := by
        have e := HN.out
        rw [e, List.take_length, Nat.sub_self, List.replicate_zero, List.append_nil] at hown
        rw [← e] at hown
        exact hidP hown
      have HBel : Hid (Below w.heap.size w wr) := hbel
      clear hown hbel HO HW
      go_wp2
      go_ret
      exact ⟨_, rfl, HO2.out, HBel.out⟩

set_option maxHeartbeats 1000000 in
theorem eqBlockS_same (a b : Option Addr) (n c d : Nat) (ps : List Bk) (w : World) (hn : n = ps.length) (ha : RowG KBk w a ps) (hb : RowG KBk w b ps) (hl : n ≤ 9000000000) :
    Calls Tryz.prog 56 #[.slice a n c, .slice b n d] w fun e w' => e = .returned (.bool true) ∧ Below w.heap.size w w' := by
  have HA := hidP ha
  have HB := hidP hb
  have HN := hidP hn
  clear ha hb hn
  go_enter Tryz.func56, Tryz.ntmps56
  go_wp2
  go_loopw [5] (fun t5 wr => ∃ k : Nat, k ≤ n ∧ t5 = .int .i64 k ∧ Below w.heap.size w wr) (fun t5 _ => n - (intOf t5).toNat)
  case atStart => exact ⟨0, Nat.zero_le _, rfl, Below.refl _ _⟩
  case round =>
    obtain ⟨k, hk, rfl, hbel⟩ := hrel
    have HW := hidP hbel
    by_cases hlt : k < n
    · obtain ⟨p, o, q, rfl, hp, hq, c0, c1, c2, c3, c4⟩ := rowBk HA.out k (by rw [← HN.out]; exact hlt)
      obtain ⟨p', o', q', rfl, hp', hq', d0, d1, d2, d3, d4⟩ := rowBk HB.out k (by rw [← HN.out]; exact hlt)
      rw [hq] at hq'
      cases hq'
      have c0' := (hbel.cell hp).trans c0
      have c1' := (hbel.cell hp).trans c1
      have c2' := (hbel.cell hp).trans c2
      have c3' := (hbel.cell hp).trans c3
      have c4' := (hbel.cell hp).trans c4
      have d0' := (hbel.cell hp').trans d0
      have d1' := (hbel.cell hp').trans d1
      have d2' := (hbel.cell hp').trans d2
      have d3' := (hbel.cell hp').trans d3
      have d4' := (hbel.cell hp').trans d4
      clear c0 c1 c2 c3 c4 d0 d1 d2 d3 d4 hq hbel
      go_wp2_with fail
      go_region_with (first | (go_at_call 84; refine (eqBlock_same q _).mono ?_; rintro e w2 ⟨rfl, hb2⟩))
      all_goals
        have HW2 := hidP (HW.out.drew.trans (hb2.mono HW.out.drew.size))
        clear hb2
        go_wp2
        go_roundw
        case rel => exact ⟨k + 1, by omega, by go_num, HW2.out⟩
        case measure => simp [intOf]; omega
    · have hkn : k = n := by omega
      subst hkn
      clear hbel
      go_wp2
      go_ret
      exact ⟨rfl, HW.out⟩

theorem Tryz.cellsBk : Tryz.prog.cellsOf 114 = 5 := by kernel_rfl

end Go.Proofs.YtplocbpngikohaaGreat
namespace Go.Proofs.YtplocbpngikohaaGreat
open Go.RowKit

/-- A byte that an owner may have. -/
def obB (c : Int) : Bool := (decide (97 ≤ c) && decide (c ≤ 122)) || ((decide (48 ≤ c) && decide (c ≤ 57)) || c == 45)
theorem ret_b {a b : Bool} (h : a = b) : Ending.returned (.bool a) = .returned (.bool b) := by rw [h]
/-- The first k bytes are such. -/
def obk (s : ByteArray) (k : Nat) : Bool := (s.data.toList.take k).all (fun c => obB (c.toNat : Int))
def ownB (s : ByteArray) : Bool := (decide (1 ≤ s.size) && decide (s.size ≤ 12)) && obk s s.size

set_option maxHeartbeats 400000 in
theorem l1InO_any (a b c : Int) (w : World) :
    Calls Tryz.prog 41 #[.int .i64 a, .int .i64 b, .int .i64 c] w fun e w' => e = .returned (.bool (decide (b ≤ a) && decide (a ≤ c))) ∧ w' = w := by
  by_cases h0 : b ≤ a
  · by_cases h1 : a ≤ c
    · go_enter Tryz.func41, Tryz.ntmps41
      go_wp2
      go_ret
      exact ⟨ret_b (Eq.symm (by rw [decide_eq_true h0, decide_eq_true h1]; rfl)), rfl⟩
    · go_enter Tryz.func41, Tryz.ntmps41
      go_wp2
      go_ret
      exact ⟨ret_b (Eq.symm (by simp; omega)), rfl⟩
  · go_enter Tryz.func41, Tryz.ntmps41
    go_wp2
    go_ret
    exact ⟨ret_b (Eq.symm (by rw [decide_eq_false (by omega : ¬ b ≤ a), Bool.false_and])), rfl⟩

theorem l1InO_r (a b c : Int) (r : Bool) (h : (decide (b ≤ a) && decide (a ≤ c)) = r) (w : World) :
    Calls Tryz.prog 41 #[.int .i64 a, .int .i64 b, .int .i64 c] w fun e w' => e = .returned (.bool r) ∧ w' = w := by
  rw [← h]; exact l1InO_any a b c w

set_option maxHeartbeats 1000000 in
theorem isOwnerByte_any (c : Int) (w : World) :
    Calls Tryz.prog 93 #[.int .u8 c] w fun e w' => e = .returned (.bool (obB c)) ∧ w' = w := by
  have hv : obB c = ((decide (97 ≤ c) && decide (c ≤ 122)) || ((decide (48 ≤ c) && decide (c ≤ 57)) || c == 45)) := rfl
  rw [hv]
  clear hv
  cases h0 : decide (97 ≤ c) <;> cases h1 : decide (c ≤ 122) <;> cases h2 : decide (48 ≤ c) <;> cases h3 : decide (c ≤ 57) <;> cases h4 : (c == 45)
  all_goals
    go_enter Tryz.func93, Tryz.ntmps93
    go_wp2
    go_ret
    exact ⟨rfl, rfl⟩

theorem obk_snoc (s : ByteArray) (k : Nat) (h : k < s.size) : obk s (k + 1) = (obk s k && obB ((s[k]'h).toNat : Int)) := by
  unfold obk
  rw [List.take_succ_eq_append_getElem (by simpa using h), List.all_append, List.all_cons, List.all_nil, Bool.and_true]; rfl
theorem obk_not (s : ByteArray) (k : Nat) (h : k < s.size) (hf : obB ((s[k]'h).toNat : Int) = false) : obk s s.size = false := by
  unfold obk
  rw [List.all_eq_false]
  refine ⟨s[k], ?_, by simp [hf]⟩
  rw [List.take_of_length_le (by simp)]
  show s.data[k] ∈ _
  simp

set_option maxHeartbeats 1000000 in
theorem iOwnerOk_any (s : ByteArray) (w : World) (hs : s.size ≤ 9223372036854775807) :
    Calls Tryz.prog 73 #[.string s] w fun e w' => e = .returned (.bool (ownB s)) ∧ w' = w := by
  by_cases h1 : s.size < 1
  · have hv : ownB s = false := by simp [ownB]; omega
    rw [hv]
    go_enter Tryz.func73, Tryz.ntmps73
    go_wp2
    go_ret
    exact ⟨rfl, rfl⟩
  by_cases h2 : 12 < s.size
  · have hv : ownB s = false := by simp [ownB]; omega
    rw [hv]
    go_enter Tryz.func73, Tryz.ntmps73
    go_wp2
    go_ret
    exact ⟨rfl, rfl⟩
  have hv : ownB s = obk s s.size := by
    unfold ownB
    rw [decide_eq_true (by omega : 1 ≤ s.size), decide_eq_true (by omega : s.size ≤ 12)]; rfl
  rw [hv]
  have HV := hidP hv
  clear hv
  go_enter Tryz.func73, Tryz.ntmps73
  go_wp2
  go_loop [3, 14] (fun _ i => ∃ k : Nat, k ≤ s.size ∧ i = .int .i64 k ∧ obk s k = true) (fun _ i => s.size - (intOf i).toNat)
  case atStart => exact ⟨0, Nat.zero_le _, rfl, by unfold obk; rfl⟩
  case round =>
    obtain ⟨k, hk, rfl, hall⟩ := hrel
    have HA := hidP hall
    clear hall
    by_cases hlt : k < s.size
    · cases hc : obB (s[k].toNat : Int)
      · have HF := hidP (obk_not s k hlt hc)
        go_wp2_with (go_at_call 93; refine (isOwnerByte_any _ _).mono ?_; rintro e w' ⟨rfl, rfl⟩)
        go_ret
        exact ⟨ret_b HF.out.symm, rfl⟩
      · have HF := hidP (obk_snoc s k hlt)
        go_wp2_with (go_at_call 93; refine (isOwnerByte_any _ _).mono ?_; rintro e w' ⟨rfl, rfl⟩)
        go_round
        case rel => exact ⟨k + 1, by omega, by go_num, by rw [HF.out, HA.out, hc]; rfl⟩
        case measure => simp [intOf]; omega
    · have HF : Hid (obk s s.size = obk s k) := hidP (by rw [show k = s.size by omega])
      go_wp2
      go_ret
      exact ⟨ret_b (by rw [HF.out, HA.out]), rfl⟩

set_option maxHeartbeats 2000000 in
theorem sOwnerOk_any (s : ByteArray) (w : World) (hs : s.size ≤ 9223372036854775807) :
    Calls Tryz.prog 40 #[.string s] w fun e w' => e = .returned (.bool (ownB s)) ∧ w' = w := by
  go_enter Tryz.func40, Tryz.ntmps40
  go_wp2
  go_loop [3] (fun i => ∃ k : Nat, k ≤ s.size ∧ i = .int .i64 k ∧ obk s k = true) (fun i => s.size - (intOf i).toNat)
  case atStart => exact ⟨0, Nat.zero_le _, rfl, by unfold obk; rfl⟩
  case round =>
    obtain ⟨k, hk, rfl, hall⟩ := hrel
    have HA := hidP hall
    clear hall
    by_cases hlt : k < s.size
    · cases hc : obB (s[k].toNat : Int)
      · have HF : Hid (ownB s = false) := by
          have := obk_not s k hlt hc
          refine hidP ?_
          unfold ownB; rw [this, Bool.and_false]
        have q1 : (decide ((97 : Int) ≤ (s[k].toNat : Int)) && decide ((s[k].toNat : Int) ≤ 122)) = false := by
          revert hc; unfold obB; cases (decide ((97 : Int) ≤ (s[k].toNat : Int)) && decide ((s[k].toNat : Int) ≤ 122)) <;> simp
        have q2 : (decide ((48 : Int) ≤ (s[k].toNat : Int)) && decide ((s[k].toNat : Int) ≤ 57)) = false := by
          revert hc; unfold obB; cases (decide ((48 : Int) ≤ (s[k].toNat : Int)) && decide ((s[k].toNat : Int) ≤ 57)) <;> simp
        have hu : wrap64 (s[k].toNat : Int) = (s[k].toNat : Int) := by have := s[k].toNat_lt; rw [wrap64]; omega
        have q3 : ((s[k].toNat : Int) != 45) = true := by
          revert hc; unfold obB; rw [bne]; cases ((s[k].toNat : Int) == 45) <;> simp
        go_wp2_with (go_at_call 41; refine (l1InO_r _ _ _ _ (by first | exact q1 | exact q2) _).mono ?_; rintro e w' ⟨rfl, rfl⟩)
        go_ret
        exact ⟨ret_b HF.out.symm, rfl⟩
      · have HF := hidP (obk_snoc s k hlt)
        have hu : wrap64 (s[k].toNat : Int) = (s[k].toNat : Int) := by have := s[k].toNat_lt; rw [wrap64]; omega
        cases q1 : (decide ((97 : Int) ≤ (s[k].toNat : Int)) && decide ((s[k].toNat : Int) ≤ 122))
        · cases q2 : (decide ((48 : Int) ≤ (s[k].toNat : Int)) && decide ((s[k].toNat : Int) ≤ 57))
          · have q3 : ((s[k].toNat : Int) != 45) = false := by
              revert hc; unfold obB; rw [q1, q2, bne]; cases ((s[k].toNat : Int) == 45) <;> simp
            go_wp2_with (go_at_call 41; refine (l1InO_r _ _ _ _ (by first | exact q1 | exact q2) _).mono ?_; rintro e w' ⟨rfl, rfl⟩)
            go_round
            case rel => exact ⟨k + 1, by omega, by go_num, by rw [HF.out, HA.out, hc]; rfl⟩
            case measure => simp [intOf]; omega
          · go_wp2_with (go_at_call 41; refine (l1InO_r _ _ _ _ (by first | exact q1 | exact q2) _).mono ?_; rintro e w' ⟨rfl, rfl⟩)
            go_round
            case rel => exact ⟨k + 1, by omega, by go_num, by rw [HF.out, HA.out, hc]; rfl⟩
            case measure => simp [intOf]; omega
        · go_wp2_with (go_at_call 41; refine (l1InO_r _ _ _ _ (by first | exact q1 | exact q2) _).mono ?_; rintro e w' ⟨rfl, rfl⟩)
          go_round
          case rel => exact ⟨k + 1, by omega, by go_num, by rw [HF.out, HA.out, hc]; rfl⟩
          case measure => simp [intOf]; omega
    · have HF : Hid (ownB s = (decide ((1 : Int) ≤ (s.size : Int)) && decide ((s.size : Int) ≤ 12))) := by
        have hke : k = s.size := by omega
        refine hidP ?_
        unfold ownB
        rw [← hke, HA.out, Bool.and_true]
        congr 1 <;> exact decide_eq_decide.mpr (by omega)
      go_wp2_with (go_at_call 41; refine (l1InO_any _ _ _ _).mono ?_; rintro e w' ⟨rfl, rfl⟩)
      go_ret
      exact ⟨ret_b HF.out.symm, rfl⟩

end Go.Proofs.YtplocbpngikohaaGreat
namespace Go.Proofs.YtplocbpngikohaaGreat
open Go.RowKit

def Pf.pk (p : Pf) : Bool := pokB p.s p.H p.L p.b
def winP (p q : Pf) : Bool := winB p.s p.H p.L p.b q.s q.H q.L q.b
def ovP (p q : Pf) : Bool := winP p q || winP q p
def Pf.ad (p : Pf) : Nat := adrN p.H p.L
def Pf.sz (p : Pf) : Nat := ((wd p.s : Int) - p.b).toNat
/-- q lies wholly behind p. -/
def fol (p q : Pf) : Prop := (p.s = false ∧ q.s = true) ∨ (p.s = q.s ∧ p.ad + 2 ^ p.sz ≤ q.ad)

theorem pk_parts {p : Pf} (h : p.pk = true) : 0 ≤ p.b ∧ p.b ≤ wd p.s ∧ p.ad = p.ad / 2 ^ p.sz * 2 ^ p.sz ∧ p.ad < 2 ^ 128 := by
  obtain ⟨x, hx, rfl⟩ := Sp.of_pok (p := p) h
  have h1 := hx.2.1
  have e : (Sp.pre x).sz = x.n := by show ((wd x.s : Int) - ((wd x.s : Int) - x.n)).toNat = x.n; omega
  refine ⟨?_, ?_, ?_, adr_lt _ _⟩
  · show 0 ≤ (wd x.s : Int) - x.n; omega
  · show (wd x.s : Int) - x.n ≤ (wd x.s : Int); omega
  · rw [e]; exact ok_mult hx
theorem win_iff {p q : Pf} (hp : p.pk = true) (hq : q.pk = true) : winP p q = true ↔ p.s = q.s ∧ q.b ≤ p.b ∧ q.ad ≤ p.ad ∧ p.ad < q.ad + 2 ^ q.sz := by
  obtain ⟨x, hx, rfl⟩ := Sp.of_pok (p := p) hp
  obtain ⟨y, hy, rfl⟩ := Sp.of_pok (p := q) hq
  have h1 := hx.2.1
  have h2 := hy.2.1
  have e : (Sp.pre y).sz = y.n := by show ((wd y.s : Int) - ((wd y.s : Int) - y.n)).toNat = y.n; omega
  have e1 : winP x.pre y.pre = wB x y := win_wB hx hy
  have e2 := one_in (t := ⟨x.s, x.H, x.L, 0⟩) rfl hy
  rw [e1, e, wB_iff]
  rw [wB_iff] at e2
  have e3 : (Sp.pre y).b ≤ (Sp.pre x).b ↔ (wd y.s : Int) - y.n ≤ (wd x.s : Int) - x.n := Iff.rfl
  constructor
  · rintro ⟨a, b, c, d⟩
    have := e2.1 ⟨Nat.zero_le _, b, c, d⟩
    refine ⟨b, ?_, this.2.1, this.2.2⟩
    rw [e3, b]; omega
  · rintro ⟨a, b, c, d⟩
    have := e2.2 ⟨a, c, d⟩
    refine ⟨?_, a, this.2.2⟩
    rw [e3] at b
    have ha : x.s = y.s := a
    rw [ha] at b; omega
theorem win_pk {p q : Pf} (h : winP p q = true) : p.pk = true ∧ q.pk = true := by
  unfold winP winB at h
  rw [Bool.and_eq_true, Bool.and_eq_true] at h
  exact ⟨h.1, h.2.1⟩
theorem sz_mono {p q : Pf} (hq : q.pk = true) (hs : p.s = q.s) (h : q.b ≤ p.b) : p.sz ≤ q.sz := by
  have := (pk_parts hq).2.1
  unfold Pf.sz; rw [hs]; omega
theorem mult_step {a b k : Nat} (ha : a = a / k * k) (hb : b = b / k * k) (h : a < b) : a + k ≤ b := by
  have hk : 0 < k := by
    rcases Nat.eq_zero_or_pos k with rfl | h'
    · simp at ha hb; omega
    · exact h'
  have : a / k < b / k := by
    apply Nat.lt_of_not_le
    intro h'
    have := Nat.mul_le_mul_right k h'
    omega
  have := Nat.mul_le_mul_right k this
  rw [Nat.succ_mul] at this
  omega
theorem mult_down {a m k : Nat} (hmk : m ≤ k) (ha : a = a / 2 ^ k * 2 ^ k) : a = a / 2 ^ m * 2 ^ m := by
  have e : 2 ^ k = 2 ^ (k - m) * 2 ^ m := by rw [← Nat.pow_add]; congr 1; omega
  have hd : 2 ^ m ∣ a := ⟨a / 2 ^ k * 2 ^ (k - m), by
    rw [Nat.mul_comm, Nat.mul_assoc, ← e]; exact ha⟩
  exact (Nat.div_mul_cancel hd).symm
theorem key_lt {p q : Pf} : (keyN p.s p.H p.L : Int) < (keyN q.s q.H q.L : Int) ↔ (p.s = false ∧ q.s = true) ∨ (p.s = q.s ∧ p.ad < q.ad) := by
  have h1 := adr_lt p.H p.L
  have h2 := adr_lt q.H q.L
  unfold keyN Pf.ad
  cases p.s <;> cases q.s <;> simp <;> omega
theorem cmp_neg {p q : Pf} : cmpP p q < 0 ↔ ((p.s = false ∧ q.s = true) ∨ (p.s = q.s ∧ p.ad < q.ad)) ∨ (p.s = q.s ∧ p.ad = q.ad ∧ p.b < q.b) := by
  have k1 := key_lt (p := p) (q := q)
  have k2 := key_lt (p := q) (q := p)
  have ke : (keyN p.s p.H p.L : Int) = (keyN q.s q.H q.L : Int) ↔ p.s = q.s ∧ p.ad = q.ad := by
    have h1 := adr_lt p.H p.L
    have h2 := adr_lt q.H q.L
    unfold keyN Pf.ad
    cases p.s <;> cases q.s <;> simp <;> omega
  unfold cmpP orI cmpW
  rcases Int.lt_trichotomy (keyN p.s p.H p.L : Int) (keyN q.s q.H q.L : Int) with h | h | h
  · have := k1.1 h
    simp [h]; exact Or.inl this
  · have hn : ¬ ((keyN p.s p.H p.L : Int) < (keyN q.s q.H q.L : Int)) := by omega
    have hn2 : ¬ ((keyN q.s q.H q.L : Int) < (keyN p.s p.H p.L : Int)) := by omega
    have hh := ke.1 h
    have nk := fun c => hn (k1.2 c)
    rw [if_neg hn, if_neg hn2]
    simp only [bne_self_eq_false, Bool.false_eq_true, if_false]
    constructor
    · intro hc
      right
      refine ⟨hh.1, hh.2, ?_⟩
      split at hc
      · assumption
      · split at hc <;> omega
    · rintro (c | ⟨_, _, c⟩)
      · exact absurd c nk
      · rw [if_pos c]; omega
  · have hn : ¬ ((keyN p.s p.H p.L : Int) < (keyN q.s q.H q.L : Int)) := by omega
    have hh := k2.1 h
    have nk := fun c => hn (k1.2 c)
    rw [if_neg hn, if_pos h]
    simp only [show ((1 : Int) != 0) = true from rfl, if_true]
    constructor
    · intro hc; omega
    · rintro (c | ⟨a, b, _⟩)
      · exact absurd c nk
      · have := ke.2 ⟨a, b⟩; omega
theorem fol_of {p q : Pf} (hp : p.pk = true) (hq : q.pk = true) (hc : cmpP p q < 0) (ho : ovP p q = false) : fol p q := by
  unfold ovP at ho
  rw [Bool.or_eq_false_iff] at ho
  obtain ⟨p1, p2, p3, p4⟩ := pk_parts hp
  obtain ⟨q1, q2, q3, q4⟩ := pk_parts hq
  have hpz : 0 < 2 ^ p.sz := Nat.pow_pos (by omega)
  rcases cmp_neg.1 hc with (h | ⟨h, ha⟩) | ⟨h, ha, hb⟩
  · exact Or.inl h
  · right
    refine ⟨h, ?_⟩
    by_cases hz : q.sz < p.sz
    · apply Nat.le_of_not_lt
      intro hlt
      have : winP q p = true := (win_iff hq hp).2 ⟨h.symm, by unfold Pf.sz at hz; rw [h] at hz p2; omega, by omega, hlt⟩
      rw [this] at ho; exact absurd ho.2 (by simp)
    · exact mult_step p3 (mult_down (by omega) q3) ha
  · exfalso
    have : winP q p = true := (win_iff hq hp).2 ⟨h.symm, by omega, by omega, by omega⟩
    rw [this] at ho; exact absurd ho.2 (by simp)
theorem fol_trans {p q r : Pf} (h1 : fol p q) (h2 : fol q r) : fol p r := by
  have hz : 0 < 2 ^ q.sz := Nat.pow_pos (by omega)
  unfold fol at *
  rcases h1 with ⟨a, b⟩ | ⟨a, b⟩ <;> rcases h2 with ⟨c, d⟩ | ⟨c, d⟩
  · rw [b] at c; cases c
  · exact Or.inl ⟨a, c ▸ b⟩
  · exact Or.inl ⟨a ▸ c, d⟩
  · exact Or.inr ⟨a.trans c, by omega⟩
theorem fol_ov {p q : Pf} (hp : p.pk = true) (hq : q.pk = true) (h : fol p q) : ovP p q = false := by
  have hz : 0 < 2 ^ p.sz := Nat.pow_pos (by omega)
  unfold ovP
  rw [Bool.or_eq_false_iff]
  constructor
  · cases e : winP p q
    · rfl
    · obtain ⟨a, _, b, c⟩ := (win_iff hp hq).1 e
      rcases h with ⟨d, f⟩ | ⟨_, d⟩
      · rw [d, f] at a; cases a
      · omega
  · cases e : winP q p
    · rfl
    · obtain ⟨a, _, b, c⟩ := (win_iff hq hp).1 e
      rcases h with ⟨d, f⟩ | ⟨_, d⟩
      · rw [d, f] at a; cases a
      · omega
theorem ov_symm (p q : Pf) : ovP p q = ovP q p := by unfold ovP; exact Bool.or_comm _ _
/-- What lies in two that follow each other, follows too. -/
theorem fol_in {t u p q : Pf} (h1 : winP t p = true) (h2 : winP u q = true) (h : fol p q) : fol t u := by
  obtain ⟨ht, hp⟩ := win_pk h1
  obtain ⟨hu, hq⟩ := win_pk h2
  obtain ⟨a1, a2, a3, a4⟩ := (win_iff ht hp).1 h1
  obtain ⟨b1, b2, b3, b4⟩ := (win_iff hu hq).1 h2
  rcases h with ⟨c, d⟩ | ⟨c, d⟩
  · exact Or.inl ⟨a1.trans c, b1.trans d⟩
  · refine Or.inr ⟨a1.trans (c.trans b1.symm), ?_⟩
    have hm := mult_step (pk_parts ht).2.2.1 (mult_down (sz_mono hp a1 a2) (a := p.ad + 2 ^ p.sz) (by
      have h3 := (pk_parts hp).2.2.1
      rw [Nat.add_div_right _ (Nat.pow_pos (by omega)), Nat.succ_mul]; omega)) a4
    omega
theorem fol_not {t p q : Pf} (h1 : winP t p = true) (h2 : winP t q = true) (h : fol p q) : False := by
  have := fol_in h1 h2 h
  have hz : 0 < 2 ^ t.sz := Nat.pow_pos (by omega)
  rcases this with ⟨a, b⟩ | ⟨_, b⟩
  · rw [a] at b; cases b
  · omega
theorem same_of {p q : Pf} (hp : p.pk = true) (hq : q.pk = true) (hb : p.b = q.b) (ho : ovP p q = true) : ¬ cmpP p q < 0 := by
  intro hc
  unfold ovP at ho
  have hpz : 0 < 2 ^ p.sz := Nat.pow_pos (by omega)
  have key : p.s = q.s ∧ p.ad = q.ad := by
    rcases Bool.or_eq_true _ _ ▸ ho with h | h
    · obtain ⟨a, _, b, c⟩ := (win_iff hp hq).1 h
      have e : p.sz = q.sz := by unfold Pf.sz; rw [a, hb]
      refine ⟨a, ?_⟩
      rcases Nat.lt_or_ge q.ad p.ad with h' | h'
      · have := mult_step (e ▸ (pk_parts hq).2.2.1) ((pk_parts hp).2.2.1) h'
        rw [e] at this; omega
      · omega
    · obtain ⟨a, _, b, c⟩ := (win_iff hq hp).1 h
      have e : q.sz = p.sz := by unfold Pf.sz; rw [a, hb]
      refine ⟨a.symm, ?_⟩
      rcases Nat.lt_or_ge p.ad q.ad with h' | h'
      · have := mult_step ((pk_parts hp).2.2.1) (e ▸ (pk_parts hq).2.2.1) h'
        omega
      · omega
  rcases cmp_neg.1 hc with (⟨a, b⟩ | ⟨_, b⟩) | ⟨_, _, b⟩
  · rw [key.1, b] at a; cases a
  · omega
  · omega

/-- A pool that is right. -/
def okPl (q : Pl) : Bool := q.p.pk && (decide (q.p.b ≤ q.n) && (decide (q.n ≤ (wd q.p.s : Int)) && decide (q.n ≤ q.p.b + 20)))
def folB (p q : Pf) : Bool := decide (cmpP p q < 0) && !ovP p q
/-- Pools from here on are right, behind r. -/
def poolsF : Option Pf → List Pl → Bool
  | _, [] => true
  | r, q :: t => (okPl q && (match r with | none => true | some r => folB r q.p)) && poolsF (some q.p) t
/-- The place of the first pool that has p. -/
def lpF (p : Pf) : Int → List Pl → Int
  | _, [] => -1
  | i, q :: t => if winP p q.p = true then i else lpF p (i + 1) t
def carB (ps : List Pl) (p : Pf) : Bool := ps.any fun q => (p.b == q.n) && winP p q.p
def bitsAt (ps : List Pl) (k : Int) : Int := (ps.getD k.toNat Pl.zero).n
def blocksI (ps : List Pl) : Option Pf → List Bk → Bool
  | _, [] => true
  | r, q :: t => ((ownB q.t && carB ps q.p) && (match r with | none => true | some r => folB r q.p)) && blocksI ps (some q.p) t
def blocksS (ps : List Pl) : Option Pf → List Bk → Bool
  | _, [] => true
  | r, q :: t => ((((q.p.pk && ownB q.t) && decide (0 ≤ lpF q.p 0 ps)) && (bitsAt ps (lpF q.p 0 ps) == q.p.b)) && (match r with | none => true | some r => decide (cmpP r q.p < 0))) && blocksS ps (some q.p) t
def planB (ps : List Pl) (bs : List Bk) : Bool := (decide (ps.length ≤ 20) && decide (bs.length ≤ 60)) && (poolsF none ps && blocksI ps none bs)

/-- Pools no two of which overlap. -/
def Dsj (ps : List Pl) : Prop := ps.Pairwise (fun q r => fol q.p r.p) ∧ ∀ q ∈ ps, okPl q = true
theorem okPl_pk {q : Pl} (h : okPl q = true) : q.p.pk = true := by unfold okPl at h; rw [Bool.and_eq_true] at h; exact h.1
theorem pools_dsj : ∀ (ps : List Pl) (r : Option Pf), (∀ p, r = some p → p.pk = true) → poolsF r ps = true → Dsj ps ∧ ∀ p, r = some p → ∀ q ∈ ps, fol p q.p
  | [], r, _, _ => ⟨⟨List.Pairwise.nil, fun _ h => by cases h⟩, fun _ _ _ h => by cases h⟩
  | q :: t, r, hr, h => by
      unfold poolsF at h
      rw [Bool.and_eq_true, Bool.and_eq_true] at h
      obtain ⟨⟨h1, h2⟩, h3⟩ := h
      have hq := okPl_pk h1
      obtain ⟨⟨d1, d2⟩, d3⟩ := pools_dsj t (some q.p) (fun p e => by cases e; exact hq) h3
      have d3' := d3 q.p rfl
      refine ⟨⟨List.pairwise_cons.2 ⟨fun r hr => d3' r hr, d1⟩, fun x hx => ?_⟩, fun p e x hx => ?_⟩
      · rcases List.mem_cons.1 hx with rfl | hx
        · exact h1
        · exact d2 x hx
      · subst e
        have h2' : folB p q.p = true := h2
        unfold folB at h2'
        rw [Bool.and_eq_true, decide_eq_true_eq, Bool.not_eq_true'] at h2'
        have hf := fol_of (hr p rfl) hq h2'.1 h2'.2
        rcases List.mem_cons.1 hx with rfl | hx
        · exact hf
        · exact fol_trans hf (d3' x hx)

theorem lpF_shift (p : Pf) : ∀ (ps : List Pl) (i : Int), 0 ≤ i → (lpF p i ps = -1 ∧ lpF p 0 ps = -1) ∨ (0 ≤ lpF p 0 ps ∧ lpF p i ps = lpF p 0 ps + i)
  | [], i, _ => Or.inl ⟨rfl, rfl⟩
  | q :: t, i, hi => by
      unfold lpF
      by_cases h : winP p q.p = true
      · rw [if_pos h, if_pos h]; exact Or.inr ⟨by omega, by omega⟩
      · rw [if_neg h, if_neg h]
        rcases lpF_shift p t (i + 1) (by omega) with ⟨a, b⟩ | ⟨a, b⟩ <;> rcases lpF_shift p t (0 + 1) (by omega) with ⟨c, d⟩ | ⟨c, d⟩
        · exact Or.inl ⟨a, c⟩
        · omega
        · omega
        · exact Or.inr ⟨by omega, by omega⟩
theorem lpF_step (p : Pf) (q : Pl) (t : List Pl) (h : winP p q.p = false) : (lpF p 0 (q :: t) = -1 ∧ lpF p 0 t = -1) ∨ (0 ≤ lpF p 0 t ∧ lpF p 0 (q :: t) = lpF p 0 t + 1) := by
  have e : lpF p 0 (q :: t) = lpF p (0 + 1) t := by
    conv => lhs; unfold lpF
    rw [if_neg (by rw [h]; simp)]
  rw [e]
  exact lpF_shift p t (0 + 1) (by omega)
theorem carved_eq (p : Pf) : ∀ ps : List Pl, Dsj ps → carB ps p = (decide (0 ≤ lpF p 0 ps) && (bitsAt ps (lpF p 0 ps) == p.b))
  | [], _ => rfl
  | q :: t, hd => by
      have hp := List.pairwise_cons.1 hd.1
      have ih := carved_eq p t ⟨hp.2, fun x hx => hd.2 x (List.mem_cons_of_mem _ hx)⟩
      have hc : carB (q :: t) p = (((p.b == q.n) && winP p q.p) || carB t p) := rfl
      rw [hc]
      cases h : winP p q.p
      · rw [Bool.and_false, Bool.false_or, ih]
        rcases lpF_step p q t h with ⟨a, b⟩ | ⟨a, b⟩
        · rw [a, b]; rfl
        · rw [b]
          have e1 : decide (0 ≤ lpF p 0 t) = true := decide_eq_true a
          have e2 : decide (0 ≤ lpF p 0 t + 1) = true := decide_eq_true (by omega)
          have e3 : bitsAt (q :: t) (lpF p 0 t + 1) = bitsAt t (lpF p 0 t) := by
            unfold bitsAt
            rw [show (lpF p 0 t + 1).toNat = (lpF p 0 t).toNat + 1 by omega, List.getD_cons_succ]
          rw [e1, e2, e3]
      · have hn : carB t p = false := by
          unfold carB
          rw [List.any_eq_false]
          intro x hx hw
          rw [Bool.and_eq_true] at hw
          exact fol_not h hw.2 (hp.1 x hx)
        rw [hn, Bool.and_true, Bool.or_false]
        have e : lpF p 0 (q :: t) = 0 := by unfold lpF; rw [if_pos h]
        rw [e]
        show (p.b == q.n) = (true && (q.n == p.b))
        rw [Bool.true_and, Bool.beq_comm]
theorem carB_pk {ps : List Pl} {p : Pf} (h : carB ps p = true) : p.pk = true := by
  obtain ⟨q, _, h⟩ := List.any_eq_true.1 h
  rw [Bool.and_eq_true] at h
  exact (win_pk h.2).1
theorem pw_three {ps : List Pl} (hd : ps.Pairwise (fun q r => fol q.p r.p)) {a b : Pl} (ha : a ∈ ps) (hb : b ∈ ps) : a = b ∨ fol a.p b.p ∨ fol b.p a.p := by
  induction ps with
  | nil => cases ha
  | cons x t ih =>
    have hp := List.pairwise_cons.1 hd
    rcases List.mem_cons.1 ha with ha' | ha' <;> rcases List.mem_cons.1 hb with hb' | hb'
    · exact Or.inl (ha'.trans hb'.symm)
    · subst ha'; exact Or.inr (Or.inl (hp.1 b hb'))
    · subst hb'; exact Or.inr (Or.inr (hp.1 a ha'))
    · exact ih hp.2 ha' hb'
/-- Two that are carved and rise lie apart. -/
theorem carved_apart {ps : List Pl} (hd : Dsj ps) {r p : Pf} (hr : carB ps r = true) (hp : carB ps p = true) : folB r p = decide (cmpP r p < 0) := by
  unfold folB
  cases hc : decide (cmpP r p < 0)
  · rfl
  · rw [decide_eq_true_eq] at hc
    obtain ⟨a, ha, h1⟩ := List.any_eq_true.1 hr
    obtain ⟨b, hb, h2⟩ := List.any_eq_true.1 hp
    rw [Bool.and_eq_true, beq_iff_eq] at h1 h2
    have hrp := (win_pk h1.2).1
    have hpp := (win_pk h2.2).1
    have : ovP r p = false := by
      rcases pw_three hd.1 ha hb with rfl | h | h
      · cases ho : ovP r p
        · rfl
        · exact absurd hc (same_of hrp hpp (h1.1.trans h2.1.symm) ho)
      · exact fol_ov hrp hpp (fol_in h1.2 h2.2 h)
      · rw [ov_symm]; exact fol_ov hpp hrp (fol_in h2.2 h1.2 h)
    rw [this]; rfl
theorem blocks_same {ps : List Pl} (hd : Dsj ps) : ∀ (bs : List Bk) (r : Option Pf), (∀ p, r = some p → carB ps p = true) → blocksS ps r bs = blocksI ps r bs
  | [], _, _ => rfl
  | q :: t, r, hr => by
      unfold blocksS blocksI
      have hc := carved_eq q.p ps hd
      cases hcar : carB ps q.p
      · rw [Bool.and_false, Bool.false_and, Bool.false_and]
        rw [hcar] at hc
        rw [Bool.and_assoc (q.p.pk && ownB q.t), ← hc, Bool.and_false, Bool.false_and, Bool.false_and]
      · rw [blocks_same hd t (some q.p) (fun p e => by cases e; exact hcar)]
        rw [hcar] at hc
        rw [Bool.and_assoc (q.p.pk && ownB q.t), ← hc, carB_pk hcar, Bool.true_and, Bool.and_true]
        congr 2
        cases r with
        | none => rfl
        | some r => exact (carved_apart hd (hr r rfl) hcar).symm

end Go.Proofs.YtplocbpngikohaaGreat
namespace Go.Proofs.YtplocbpngikohaaGreat
open Go.RowKit

set_option maxHeartbeats 1000000 in
theorem iPrefixOk_any (s : Bool) (H L : BitVec 64) (b : Int) (w : World) :
    Calls Tryz.prog 89 #[.agg #[.bool s, .int .i64 H.toInt, .int .i64 L.toInt, .int .i64 b]] w fun e w' => e = .returned (.bool (pokB s H L b)) ∧ Below w.heap.size w w' := by
  cases hp : pokB s H L b
  · have HS : Hid (∀ w, _) := spanOf_no s H L b hp
    clear hp
    go_enter Tryz.func89, Tryz.ntmps89
    go_wp2_with fail
    refine (HS.out _).mono ?_
    rintro e w1 ⟨rfl, hb1⟩
    have hz1 := hb1.size
    try simp at hz1
    have f10 : w.heap.size < w1.heap.size := by omega
    refine olds_k (w.heap.size + 1) hb1 ?_ ?_
    · first | omega | (simp; omega) | (simp; done)
    intro hc1 hf1
    go_wp2_with fail
    go_ret
    refine ⟨rfl, ?_⟩
    repeat (first | with_reducible exact Below.refl _ _ | (with_reducible refine Below.drew ?_) | (with_reducible refine Below.alloc ?_ ?_ _; rotate_left; (focus (first | omega | (simp; omega) | (simp; done)))) | (with_reducible refine Below.setCell ?_ ?_ _; rotate_left; (focus (first | omega | (simp; omega) | (simp; done)))) | (with_reducible refine Below.trans ?_ (hb1.mono ?_); rotate_left; (focus (first | omega | (simp; omega) | (simp; done)))))
  · obtain ⟨n, hn⟩ : ∃ n : Nat, (n : Int) = (wd s : Int) - b := ⟨((wd s : Int) - b).toNat, by have := (pokB_parts hp).2.1; omega⟩
    have HS : Hid (∀ w, _) := spanOf_yes s H L b n hn hp
    clear hp hn
    go_enter Tryz.func89, Tryz.ntmps89
    go_wp2_with fail
    refine (HS.out _).mono ?_
    rintro e w1 ⟨rfl, hb1⟩
    have hz1 := hb1.size
    try simp at hz1
    have f10 : w.heap.size < w1.heap.size := by omega
    refine olds_k (w.heap.size + 1) hb1 ?_ ?_
    · first | omega | (simp; omega) | (simp; done)
    intro hc1 hf1
    go_wp2_with fail
    go_ret
    refine ⟨rfl, ?_⟩
    repeat (first | with_reducible exact Below.refl _ _ | (with_reducible refine Below.drew ?_) | (with_reducible refine Below.alloc ?_ ?_ _; rotate_left; (focus (first | omega | (simp; omega) | (simp; done)))) | (with_reducible refine Below.setCell ?_ ?_ _; rotate_left; (focus (first | omega | (simp; omega) | (simp; done)))) | (with_reducible refine Below.trans ?_ (hb1.mono ?_); rotate_left; (focus (first | omega | (simp; omega) | (simp; done)))))

end Go.Proofs.YtplocbpngikohaaGreat
namespace Go.Proofs.YtplocbpngikohaaGreat
open Go.RowKit

theorem box4 {p : Pf} (w : World) (t : TypeId) : (w.alloc (.cells #[.bool p.s, .int .i64 p.H.toInt, .int .i64 p.L.toInt, .int .i64 p.b] t)).cell? ⟨w.heap.size, 0, none⟩ = some (.bool p.s) ∧ (w.alloc (.cells #[.bool p.s, .int .i64 p.H.toInt, .int .i64 p.L.toInt, .int .i64 p.b] t)).cell? ⟨w.heap.size, 1, none⟩ = some (.int .i64 p.H.toInt) ∧ (w.alloc (.cells #[.bool p.s, .int .i64 p.H.toInt, .int .i64 p.L.toInt, .int .i64 p.b] t)).cell? ⟨w.heap.size, 2, none⟩ = some (.int .i64 p.L.toInt) ∧ (w.alloc (.cells #[.bool p.s, .int .i64 p.H.toInt, .int .i64 p.L.toInt, .int .i64 p.b] t)).cell? ⟨w.heap.size, 3, none⟩ = some (.int .i64 p.b) := by
  have h := own_one w 0 t p (Nat.zero_le _)
  exact ⟨World.ownsRow.cellAt h 0 (by show 0 < 1 * 4; omega), World.ownsRow.cellAt h 1 (by show 1 < 1 * 4; omega), World.ownsRow.cellAt h 2 (by show 2 < 1 * 4; omega), World.ownsRow.cellAt h 3 (by show 3 < 1 * 4; omega)⟩
theorem boxPl {q : Pl} (w : World) (t : TypeId) : (w.alloc (.cells #[.bool q.p.s, .int .i64 q.p.H.toInt, .int .i64 q.p.L.toInt, .int .i64 q.p.b, .int .i64 q.n] t)).cell? ⟨w.heap.size, 0, none⟩ = some (.bool q.p.s) ∧ (w.alloc (.cells #[.bool q.p.s, .int .i64 q.p.H.toInt, .int .i64 q.p.L.toInt, .int .i64 q.p.b, .int .i64 q.n] t)).cell? ⟨w.heap.size, 1, none⟩ = some (.int .i64 q.p.H.toInt) ∧ (w.alloc (.cells #[.bool q.p.s, .int .i64 q.p.H.toInt, .int .i64 q.p.L.toInt, .int .i64 q.p.b, .int .i64 q.n] t)).cell? ⟨w.heap.size, 2, none⟩ = some (.int .i64 q.p.L.toInt) ∧ (w.alloc (.cells #[.bool q.p.s, .int .i64 q.p.H.toInt, .int .i64 q.p.L.toInt, .int .i64 q.p.b, .int .i64 q.n] t)).cell? ⟨w.heap.size, 3, none⟩ = some (.int .i64 q.p.b) ∧ (w.alloc (.cells #[.bool q.p.s, .int .i64 q.p.H.toInt, .int .i64 q.p.L.toInt, .int .i64 q.p.b, .int .i64 q.n] t)).cell? ⟨w.heap.size, 4, none⟩ = some (.int .i64 q.n) := by
  have h := own_oneG KPl w 0 t q (Nat.zero_le _)
  exact ⟨World.ownsRow.cellAt h 0 (by show 0 < 1 * 5; omega), World.ownsRow.cellAt h 1 (by show 1 < 1 * 5; omega), World.ownsRow.cellAt h 2 (by show 2 < 1 * 5; omega), World.ownsRow.cellAt h 3 (by show 3 < 1 * 5; omega), World.ownsRow.cellAt h 4 (by show 4 < 1 * 5; omega)⟩
theorem boxBk {q : Bk} (w : World) (t : TypeId) : (w.alloc (.cells #[.bool q.p.s, .int .i64 q.p.H.toInt, .int .i64 q.p.L.toInt, .int .i64 q.p.b, .string q.t] t)).cell? ⟨w.heap.size, 0, none⟩ = some (.bool q.p.s) ∧ (w.alloc (.cells #[.bool q.p.s, .int .i64 q.p.H.toInt, .int .i64 q.p.L.toInt, .int .i64 q.p.b, .string q.t] t)).cell? ⟨w.heap.size, 1, none⟩ = some (.int .i64 q.p.H.toInt) ∧ (w.alloc (.cells #[.bool q.p.s, .int .i64 q.p.H.toInt, .int .i64 q.p.L.toInt, .int .i64 q.p.b, .string q.t] t)).cell? ⟨w.heap.size, 2, none⟩ = some (.int .i64 q.p.L.toInt) ∧ (w.alloc (.cells #[.bool q.p.s, .int .i64 q.p.H.toInt, .int .i64 q.p.L.toInt, .int .i64 q.p.b, .string q.t] t)).cell? ⟨w.heap.size, 3, none⟩ = some (.int .i64 q.p.b) ∧ (w.alloc (.cells #[.bool q.p.s, .int .i64 q.p.H.toInt, .int .i64 q.p.L.toInt, .int .i64 q.p.b, .string q.t] t)).cell? ⟨w.heap.size, 4, none⟩ = some (.string q.t) := by
  have h := own_oneG KBk w 0 t q (Nat.zero_le _)
  exact ⟨World.ownsRow.cellAt h 0 (by show 0 < 1 * 5; omega), World.ownsRow.cellAt h 1 (by show 1 < 1 * 5; omega), World.ownsRow.cellAt h 2 (by show 2 < 1 * 5; omega), World.ownsRow.cellAt h 3 (by show 3 < 1 * 5; omega), World.ownsRow.cellAt h 4 (by show 4 < 1 * 5; omega)⟩
theorem alloc_below (w : World) (o : Obj) : Below w.heap.size w (w.alloc o) := (Below.refl _ _).alloc (Nat.le_refl _) o
theorem alloc_lt (w : World) (o : Obj) : w.heap.size < (w.alloc o).heap.size := by simp
set_option maxRecDepth 10000 in
set_option maxHeartbeats 400000 in
theorem iPoolOk_a (q : Pl) (w : World) (hpk : pokB q.p.s q.p.H q.p.L q.p.b = false) :
    Calls Tryz.prog 71 #[.agg #[.bool q.p.s, .int .i64 q.p.H.toInt, .int .i64 q.p.L.toInt, .int .i64 q.p.b, .int .i64 q.n]] w fun e w' => e = .returned (.bool false) ∧ Below w.heap.size w w' := by
  have HP := hidP (iPrefixOk_any q.p.s q.p.H q.p.L q.p.b)
  have HWd := hidP (width_any q.p.s q.p.H.toInt q.p.L.toInt)
  rw [hpk] at HP
  go_enter Tryz.func71, Tryz.ntmps71
  go_wp2_with fail
  obtain ⟨x0, x1, x2, x3, x4⟩ := boxPl (q := q) w 86
  have xB := alloc_below w (.cells #[.bool q.p.s, .int .i64 q.p.H.toInt, .int .i64 q.p.L.toInt, .int .i64 q.p.b, .int .i64 q.n] 86)
  have xL := alloc_lt w (.cells #[.bool q.p.s, .int .i64 q.p.H.toInt, .int .i64 q.p.L.toInt, .int .i64 q.p.b, .int .i64 q.n] 86)
  have xS : (w.alloc (.cells #[.bool q.p.s, .int .i64 q.p.H.toInt, .int .i64 q.p.L.toInt, .int .i64 q.p.b, .int .i64 q.n] 86)).heap.size = w.heap.size + 1 := by simp
  generalize w.alloc (.cells #[.bool q.p.s, .int .i64 q.p.H.toInt, .int .i64 q.p.L.toInt, .int .i64 q.p.b, .int .i64 q.n] 86) = W1 at *
  obtain ⟨y0, y1, y2, y3⟩ := box4 (p := q.p) W1 65
  have yB := alloc_below W1 (.cells #[.bool q.p.s, .int .i64 q.p.H.toInt, .int .i64 q.p.L.toInt, .int .i64 q.p.b] 65)
  have yL := alloc_lt W1 (.cells #[.bool q.p.s, .int .i64 q.p.H.toInt, .int .i64 q.p.L.toInt, .int .i64 q.p.b] 65)
  have yS : (W1.alloc (.cells #[.bool q.p.s, .int .i64 q.p.H.toInt, .int .i64 q.p.L.toInt, .int .i64 q.p.b] 65)).heap.size = W1.heap.size + 1 := by simp
  generalize W1.alloc (.cells #[.bool q.p.s, .int .i64 q.p.H.toInt, .int .i64 q.p.L.toInt, .int .i64 q.p.b] 65) = W2 at *
  rw [xS] at y0 y1 y2 y3 yL yS
  have z0 := (yB.cell xL).trans x0
  have z1 := (yB.cell xL).trans x1
  have z2 := (yB.cell xL).trans x2
  have z3 := (yB.cell xL).trans x3
  have z4 := (yB.cell xL).trans x4
  have zL : w.heap.size < W2.heap.size := by omega
  have HXB := hidP (xB.trans (yB.mono xB.size))
  clear x0 x1 x2 x3 x4 xB yB xS yS xL
  have HSx : Hid (∀ x, Below W2.heap.size W2 x → (x.cell? ⟨w.heap.size, 0, none⟩ = some (.bool q.p.s) ∧ x.cell? ⟨w.heap.size, 1, none⟩ = some (.int .i64 q.p.H.toInt) ∧ x.cell? ⟨w.heap.size, 2, none⟩ = some (.int .i64 q.p.L.toInt) ∧ x.cell? ⟨w.heap.size, 3, none⟩ = some (.int .i64 q.p.b) ∧ x.cell? ⟨w.heap.size, 4, none⟩ = some (.int .i64 q.n) ∧ x.cell? ⟨w.heap.size + 1, 0, none⟩ = some (.bool q.p.s) ∧ x.cell? ⟨w.heap.size + 1, 1, none⟩ = some (.int .i64 q.p.H.toInt) ∧ x.cell? ⟨w.heap.size + 1, 2, none⟩ = some (.int .i64 q.p.L.toInt) ∧ x.cell? ⟨w.heap.size + 1, 3, none⟩ = some (.int .i64 q.p.b) ∧ Below W2.heap.size W2 x)) := hidP fun x h =>
    ⟨(h.cell zL).trans z0, (h.cell zL).trans z1, (h.cell zL).trans z2, (h.cell zL).trans z3, (h.cell zL).trans z4, (h.cell yL).trans y0, (h.cell yL).trans y1, (h.cell yL).trans y2, (h.cell yL).trans y3, h⟩
  refine wp_region_held_drew (S := (fun x => x.cell? ⟨w.heap.size, 0, none⟩ = some (.bool q.p.s) ∧ x.cell? ⟨w.heap.size, 1, none⟩ = some (.int .i64 q.p.H.toInt) ∧ x.cell? ⟨w.heap.size, 2, none⟩ = some (.int .i64 q.p.L.toInt) ∧ x.cell? ⟨w.heap.size, 3, none⟩ = some (.int .i64 q.p.b) ∧ x.cell? ⟨w.heap.size, 4, none⟩ = some (.int .i64 q.n) ∧ x.cell? ⟨w.heap.size + 1, 0, none⟩ = some (.bool q.p.s) ∧ x.cell? ⟨w.heap.size + 1, 1, none⟩ = some (.int .i64 q.p.H.toInt) ∧ x.cell? ⟨w.heap.size + 1, 2, none⟩ = some (.int .i64 q.p.L.toInt) ∧ x.cell? ⟨w.heap.size + 1, 3, none⟩ = some (.int .i64 q.p.b) ∧ Below W2.heap.size W2 x)) (by kernel_rfl) ?_ (fun hHeld => ?_)
  · try dsimp only
    exact HSx.out _ ((Below.refl _ _).drew)
  refine tkA 0 6 (v := ?_) rfl (by kernel_rfl) (fun _ _ _ h => h) (by rfl) ?_ (by assumption) ?_; rotate_left; · (intro w hSw; (try dsimp only at hSw); go_simp; try with_reducible rfl)
  simp only [pa]
  refine wpAnyH_ready (rs := [1]) (by kernel_rfl) (by simp) ?_
  refine AllReadyH.cons rfl (fun K hK => ?_) AllReadyH.nil
  go_simp
  go_wp2_with (first | (go_at_call 89; refine (HP.out _).mono ?_; rintro e w2 ⟨rfl, hb2⟩; have b2 := (hHeld.2.2.2.2.2.2.2.2.2).trans (hb2.mono (hHeld.2.2.2.2.2.2.2.2.2).size)))
  refine hK.out _ _ ?_ (fun hHeld => ?_)
  · try dsimp only
    exact HSx.out _ b2
  clear hK K
  refine tkA 2 8 (v := ?_) rfl (by kernel_rfl) (fun _ _ _ h => h) (by rfl) ?_ (by assumption) ?_; rotate_left; · (intro w hSw; (try dsimp only at hSw); go_simp; try with_reducible rfl)
  simp only [pa]
  refine wpAnyH_take (i := 3) (oi := ⟨some 9, _, _, _, _, _⟩) (v := undef) rfl (by kernel_rfl) (by kernel_rfl) (by kernel_rfl) (fun _ _ _ h => h) (Or.inr ⟨by rfl, rfl⟩) (by assumption) ?_
  simp only [pa]
  refine wpAnyH_take (i := 4) (oi := ⟨some 10, _, _, _, _, _⟩) (v := undef) rfl (by kernel_rfl) (by kernel_rfl) (by kernel_rfl) (fun _ _ _ h => h) (Or.inr ⟨by rfl, rfl⟩) (by assumption) ?_
  simp only [pa]
  refine wpAnyH_take (i := 5) (oi := ⟨some 11, _, _, _, _, _⟩) (v := undef) rfl (by kernel_rfl) (by kernel_rfl) (by kernel_rfl) (fun _ _ _ h => h) (Or.inr ⟨by rfl, rfl⟩) (by assumption) ?_
  simp only [pa]
  refine wpAnyH_take (i := 6) (oi := ⟨some 12, _, _, _, _, _⟩) (v := undef) rfl (by kernel_rfl) (by kernel_rfl) (by kernel_rfl) (fun _ _ _ h => h) (Or.inr ⟨by rfl, rfl⟩) (by assumption) ?_
  simp only [pa]
  refine wpAnyH_take (i := 7) (oi := ⟨some 13, _, _, _, _, _⟩) (v := undef) rfl (by kernel_rfl) (by kernel_rfl) (by kernel_rfl) (fun _ _ _ h => h) (Or.inr ⟨by rfl, rfl⟩) (by assumption) ?_
  simp only [pa]
  refine tkA 8 14 (v := ?_) rfl (by kernel_rfl) (fun _ _ _ h => h) (by rfl) ?_ (by assumption) ?_; rotate_left; · (intro w hSw; (try dsimp only at hSw); go_simp; try with_reducible rfl)
  simp only [pa]
  refine tkA 9 15 (v := ?_) rfl (by kernel_rfl) (fun _ _ _ h => h) (by rfl) ?_ (by assumption) ?_; rotate_left; · (intro w hSw; (try dsimp only at hSw); go_simp; try with_reducible rfl)
  simp only [pa]
  refine wpAnyH_take (i := 10) (oi := ⟨some 16, _, _, _, _, _⟩) (v := undef) rfl (by kernel_rfl) (by kernel_rfl) (by kernel_rfl) (fun _ _ _ h => h) (Or.inr ⟨by rfl, rfl⟩) (by assumption) ?_
  simp only [pa]
  refine wpAnyH_take (i := 11) (oi := ⟨some 17, _, _, _, _, _⟩) (v := undef) rfl (by kernel_rfl) (by kernel_rfl) (by kernel_rfl) (fun _ _ _ h => h) (Or.inr ⟨by rfl, rfl⟩) (by assumption) ?_
  simp only [pa]
  refine wpAnyH_take (i := 12) (oi := ⟨some 18, _, _, _, _, _⟩) (v := undef) rfl (by kernel_rfl) (by kernel_rfl) (by kernel_rfl) (fun _ _ _ h => h) (Or.inr ⟨by rfl, rfl⟩) (by assumption) ?_
  simp only [pa]
  refine wpAnyH_take (i := 13) (oi := ⟨some 19, _, _, _, _, _⟩) (v := undef) rfl (by kernel_rfl) (by kernel_rfl) (by kernel_rfl) (fun _ _ _ h => h) (Or.inr ⟨by rfl, rfl⟩) (by assumption) ?_
  simp only [pa]
  refine wpAnyH_take (i := 14) (oi := ⟨some 20, _, _, _, _, _⟩) (v := undef) rfl (by kernel_rfl) (by kernel_rfl) (by kernel_rfl) (fun _ _ _ h => h) (Or.inr ⟨by rfl, rfl⟩) (by assumption) ?_
  simp only [pa]
  refine wpAnyH_take (i := 15) (oi := ⟨some 21, _, _, _, _, _⟩) (v := undef) rfl (by kernel_rfl) (by kernel_rfl) (by kernel_rfl) (fun _ _ _ h => h) (Or.inr ⟨by rfl, rfl⟩) (by assumption) ?_
  simp only [pa]
  refine wpAnyH_take (i := 16) (oi := ⟨some 22, _, _, _, _, _⟩) (v := undef) rfl (by kernel_rfl) (by kernel_rfl) (by kernel_rfl) (fun _ _ _ h => h) (Or.inr ⟨by rfl, rfl⟩) (by assumption) ?_
  simp only [pa]
  refine wpAnyH_take (i := 17) (oi := ⟨some 23, _, _, _, _, _⟩) (v := undef) rfl (by kernel_rfl) (by kernel_rfl) (by kernel_rfl) (fun _ _ _ h => h) (Or.inr ⟨by rfl, rfl⟩) (by assumption) ?_
  simp only [pa]
  refine wpAnyH_take (i := 18) (oi := ⟨some 24, _, _, _, _, _⟩) (v := undef) rfl (by kernel_rfl) (by kernel_rfl) (by kernel_rfl) (fun _ _ _ h => h) (Or.inr ⟨by rfl, rfl⟩) (by assumption) ?_
  simp only [pa]
  refine wpAnyH_take (i := 19) (oi := ⟨some 25, _, _, _, _, _⟩) (v := undef) rfl (by kernel_rfl) (by kernel_rfl) (by kernel_rfl) (fun _ _ _ h => h) (Or.inr ⟨by rfl, rfl⟩) (by assumption) ?_
  simp only [pa]
  refine tkA 20 26 (v := ?_) rfl (by kernel_rfl) (fun _ _ _ h => h) (by rfl) ?_ (by assumption) ?_; rotate_left; · (intro w hSw; (try dsimp only at hSw); go_simp; try with_reducible rfl)
  simp only [pa]
  refine tkA 21 2 (v := ?_) rfl (by kernel_rfl) (fun _ _ _ h => h) (by rfl) ?_ (by assumption) ?_; rotate_left; · (intro w hSw; (try dsimp only at hSw); go_simp; try with_reducible rfl)
  simp only [pa]
  have HE := hidP (hHeld.2.2.2.2.2.2.2.2.2)
  refine wpAnyH_done (by kernel_rfl) ?_ _
  clear hHeld
  go_wp2_with fail
  go_ret
  exact ⟨rfl, HXB.out.trans (HE.out.mono HXB.out.size)⟩

set_option maxRecDepth 10000 in
set_option maxHeartbeats 400000 in
theorem iPoolOk_b (q : Pl) (w : World) (hpk : pokB q.p.s q.p.H q.p.L q.p.b = true) (h1 : decide (q.p.b ≤ q.n) = false) :
    Calls Tryz.prog 71 #[.agg #[.bool q.p.s, .int .i64 q.p.H.toInt, .int .i64 q.p.L.toInt, .int .i64 q.p.b, .int .i64 q.n]] w fun e w' => e = .returned (.bool false) ∧ Below w.heap.size w w' := by
  have HP := hidP (iPrefixOk_any q.p.s q.p.H q.p.L q.p.b)
  have HWd := hidP (width_any q.p.s q.p.H.toInt q.p.L.toInt)
  rw [hpk] at HP
  go_enter Tryz.func71, Tryz.ntmps71
  go_wp2_with fail
  obtain ⟨x0, x1, x2, x3, x4⟩ := boxPl (q := q) w 86
  have xB := alloc_below w (.cells #[.bool q.p.s, .int .i64 q.p.H.toInt, .int .i64 q.p.L.toInt, .int .i64 q.p.b, .int .i64 q.n] 86)
  have xL := alloc_lt w (.cells #[.bool q.p.s, .int .i64 q.p.H.toInt, .int .i64 q.p.L.toInt, .int .i64 q.p.b, .int .i64 q.n] 86)
  have xS : (w.alloc (.cells #[.bool q.p.s, .int .i64 q.p.H.toInt, .int .i64 q.p.L.toInt, .int .i64 q.p.b, .int .i64 q.n] 86)).heap.size = w.heap.size + 1 := by simp
  generalize w.alloc (.cells #[.bool q.p.s, .int .i64 q.p.H.toInt, .int .i64 q.p.L.toInt, .int .i64 q.p.b, .int .i64 q.n] 86) = W1 at *
  obtain ⟨y0, y1, y2, y3⟩ := box4 (p := q.p) W1 65
  have yB := alloc_below W1 (.cells #[.bool q.p.s, .int .i64 q.p.H.toInt, .int .i64 q.p.L.toInt, .int .i64 q.p.b] 65)
  have yL := alloc_lt W1 (.cells #[.bool q.p.s, .int .i64 q.p.H.toInt, .int .i64 q.p.L.toInt, .int .i64 q.p.b] 65)
  have yS : (W1.alloc (.cells #[.bool q.p.s, .int .i64 q.p.H.toInt, .int .i64 q.p.L.toInt, .int .i64 q.p.b] 65)).heap.size = W1.heap.size + 1 := by simp
  generalize W1.alloc (.cells #[.bool q.p.s, .int .i64 q.p.H.toInt, .int .i64 q.p.L.toInt, .int .i64 q.p.b] 65) = W2 at *
  rw [xS] at y0 y1 y2 y3 yL yS
  have z0 := (yB.cell xL).trans x0
  have z1 := (yB.cell xL).trans x1
  have z2 := (yB.cell xL).trans x2
  have z3 := (yB.cell xL).trans x3
  have z4 := (yB.cell xL).trans x4
  have zL : w.heap.size < W2.heap.size := by omega
  have HXB := hidP (xB.trans (yB.mono xB.size))
  clear x0 x1 x2 x3 x4 xB yB xS yS xL
  have HSx : Hid (∀ x, Below W2.heap.size W2 x → (x.cell? ⟨w.heap.size, 0, none⟩ = some (.bool q.p.s) ∧ x.cell? ⟨w.heap.size, 1, none⟩ = some (.int .i64 q.p.H.toInt) ∧ x.cell? ⟨w.heap.size, 2, none⟩ = some (.int .i64 q.p.L.toInt) ∧ x.cell? ⟨w.heap.size, 3, none⟩ = some (.int .i64 q.p.b) ∧ x.cell? ⟨w.heap.size, 4, none⟩ = some (.int .i64 q.n) ∧ x.cell? ⟨w.heap.size + 1, 0, none⟩ = some (.bool q.p.s) ∧ x.cell? ⟨w.heap.size + 1, 1, none⟩ = some (.int .i64 q.p.H.toInt) ∧ x.cell? ⟨w.heap.size + 1, 2, none⟩ = some (.int .i64 q.p.L.toInt) ∧ x.cell? ⟨w.heap.size + 1, 3, none⟩ = some (.int .i64 q.p.b) ∧ Below W2.heap.size W2 x)) := hidP fun x h =>
    ⟨(h.cell zL).trans z0, (h.cell zL).trans z1, (h.cell zL).trans z2, (h.cell zL).trans z3, (h.cell zL).trans z4, (h.cell yL).trans y0, (h.cell yL).trans y1, (h.cell yL).trans y2, (h.cell yL).trans y3, h⟩
  refine wp_region_held_drew (S := (fun x => x.cell? ⟨w.heap.size, 0, none⟩ = some (.bool q.p.s) ∧ x.cell? ⟨w.heap.size, 1, none⟩ = some (.int .i64 q.p.H.toInt) ∧ x.cell? ⟨w.heap.size, 2, none⟩ = some (.int .i64 q.p.L.toInt) ∧ x.cell? ⟨w.heap.size, 3, none⟩ = some (.int .i64 q.p.b) ∧ x.cell? ⟨w.heap.size, 4, none⟩ = some (.int .i64 q.n) ∧ x.cell? ⟨w.heap.size + 1, 0, none⟩ = some (.bool q.p.s) ∧ x.cell? ⟨w.heap.size + 1, 1, none⟩ = some (.int .i64 q.p.H.toInt) ∧ x.cell? ⟨w.heap.size + 1, 2, none⟩ = some (.int .i64 q.p.L.toInt) ∧ x.cell? ⟨w.heap.size + 1, 3, none⟩ = some (.int .i64 q.p.b) ∧ Below W2.heap.size W2 x)) (by kernel_rfl) ?_ (fun hHeld => ?_)
  · try dsimp only
    exact HSx.out _ ((Below.refl _ _).drew)
  refine tkA 0 6 (v := ?_) rfl (by kernel_rfl) (fun _ _ _ h => h) (by rfl) ?_ (by assumption) ?_; rotate_left; · (intro w hSw; (try dsimp only at hSw); go_simp; try with_reducible rfl)
  simp only [pa]
  refine wpAnyH_ready (rs := [1]) (by kernel_rfl) (by simp) ?_
  refine AllReadyH.cons rfl (fun K hK => ?_) AllReadyH.nil
  go_simp
  go_wp2_with (first | (go_at_call 89; refine (HP.out _).mono ?_; rintro e w2 ⟨rfl, hb2⟩; have b2 := (hHeld.2.2.2.2.2.2.2.2.2).trans (hb2.mono (hHeld.2.2.2.2.2.2.2.2.2).size)))
  refine hK.out _ _ ?_ (fun hHeld => ?_)
  · try dsimp only
    exact HSx.out _ b2
  clear hK K
  refine tkA 2 8 (v := ?_) rfl (by kernel_rfl) (fun _ _ _ h => h) (by rfl) ?_ (by assumption) ?_; rotate_left; · (intro w hSw; (try dsimp only at hSw); go_simp; try with_reducible rfl)
  simp only [pa]
  refine tkA 3 9 (v := ?_) rfl (by kernel_rfl) (fun _ _ _ h => h) (by rfl) ?_ (by assumption) ?_; rotate_left; · (intro w hSw; (try dsimp only at hSw); go_simp; try with_reducible rfl)
  simp only [pa]
  refine tkA 4 10 (v := ?_) rfl (by kernel_rfl) (fun _ _ _ h => h) (by rfl) ?_ (by assumption) ?_; rotate_left; · (intro w hSw; (try dsimp only at hSw); go_simp; try with_reducible rfl)
  simp only [pa]
  refine tkA 5 11 (v := ?_) rfl (by kernel_rfl) (fun _ _ _ h => h) (by rfl) ?_ (by assumption) ?_; rotate_left; · (intro w hSw; (try dsimp only at hSw); go_simp; try with_reducible rfl)
  simp only [pa]
  refine tkA 6 12 (v := ?_) rfl (by kernel_rfl) (fun _ _ _ h => h) (by rfl) ?_ (by assumption) ?_; rotate_left; · (intro w hSw; (try dsimp only at hSw); go_simp; try with_reducible rfl)
  simp only [pa]
  refine tkA 7 13 (v := ?_) rfl (by kernel_rfl) (fun _ _ _ h => h) (by rfl) ?_ (by assumption) ?_; rotate_left; · (intro w hSw; (try dsimp only at hSw); go_simp; try with_reducible rfl)
  simp only [pa]
  refine tkA 8 14 (v := ?_) rfl (by kernel_rfl) (fun _ _ _ h => h) (by rfl) ?_ (by assumption) ?_; rotate_left; · (intro w hSw; (try dsimp only at hSw); go_simp; try with_reducible rfl)
  simp only [pa]
  refine tkA 9 15 (v := ?_) rfl (by kernel_rfl) (fun _ _ _ h => h) (by rfl) ?_ (by assumption) ?_; rotate_left; · (intro w hSw; (try dsimp only at hSw); go_simp; try with_reducible rfl)
  simp only [pa]
  refine wpAnyH_take (i := 10) (oi := ⟨some 16, _, _, _, _, _⟩) (v := undef) rfl (by kernel_rfl) (by kernel_rfl) (by kernel_rfl) (fun _ _ _ h => h) (Or.inr ⟨by rfl, rfl⟩) (by assumption) ?_
  simp only [pa]
  refine wpAnyH_take (i := 11) (oi := ⟨some 17, _, _, _, _, _⟩) (v := undef) rfl (by kernel_rfl) (by kernel_rfl) (by kernel_rfl) (fun _ _ _ h => h) (Or.inr ⟨by rfl, rfl⟩) (by assumption) ?_
  simp only [pa]
  refine wpAnyH_take (i := 12) (oi := ⟨some 18, _, _, _, _, _⟩) (v := undef) rfl (by kernel_rfl) (by kernel_rfl) (by kernel_rfl) (fun _ _ _ h => h) (Or.inr ⟨by rfl, rfl⟩) (by assumption) ?_
  simp only [pa]
  refine wpAnyH_take (i := 13) (oi := ⟨some 19, _, _, _, _, _⟩) (v := undef) rfl (by kernel_rfl) (by kernel_rfl) (by kernel_rfl) (fun _ _ _ h => h) (Or.inr ⟨by rfl, rfl⟩) (by assumption) ?_
  simp only [pa]
  refine wpAnyH_take (i := 14) (oi := ⟨some 20, _, _, _, _, _⟩) (v := undef) rfl (by kernel_rfl) (by kernel_rfl) (by kernel_rfl) (fun _ _ _ h => h) (Or.inr ⟨by rfl, rfl⟩) (by assumption) ?_
  simp only [pa]
  refine wpAnyH_take (i := 15) (oi := ⟨some 21, _, _, _, _, _⟩) (v := undef) rfl (by kernel_rfl) (by kernel_rfl) (by kernel_rfl) (fun _ _ _ h => h) (Or.inr ⟨by rfl, rfl⟩) (by assumption) ?_
  simp only [pa]
  refine wpAnyH_take (i := 16) (oi := ⟨some 22, _, _, _, _, _⟩) (v := undef) rfl (by kernel_rfl) (by kernel_rfl) (by kernel_rfl) (fun _ _ _ h => h) (Or.inr ⟨by rfl, rfl⟩) (by assumption) ?_
  simp only [pa]
  refine wpAnyH_take (i := 17) (oi := ⟨some 23, _, _, _, _, _⟩) (v := undef) rfl (by kernel_rfl) (by kernel_rfl) (by kernel_rfl) (fun _ _ _ h => h) (Or.inr ⟨by rfl, rfl⟩) (by assumption) ?_
  simp only [pa]
  refine wpAnyH_take (i := 18) (oi := ⟨some 24, _, _, _, _, _⟩) (v := undef) rfl (by kernel_rfl) (by kernel_rfl) (by kernel_rfl) (fun _ _ _ h => h) (Or.inr ⟨by rfl, rfl⟩) (by assumption) ?_
  simp only [pa]
  refine wpAnyH_take (i := 19) (oi := ⟨some 25, _, _, _, _, _⟩) (v := undef) rfl (by kernel_rfl) (by kernel_rfl) (by kernel_rfl) (fun _ _ _ h => h) (Or.inr ⟨by rfl, rfl⟩) (by assumption) ?_
  simp only [pa]
  refine tkA 20 26 (v := ?_) rfl (by kernel_rfl) (fun _ _ _ h => h) (by rfl) ?_ (by assumption) ?_; rotate_left; · (intro w hSw; (try dsimp only at hSw); go_simp; try with_reducible rfl)
  simp only [pa]
  refine tkA 21 2 (v := ?_) rfl (by kernel_rfl) (fun _ _ _ h => h) (by rfl) ?_ (by assumption) ?_; rotate_left; · (intro w hSw; (try dsimp only at hSw); go_simp; try with_reducible rfl)
  simp only [pa]
  have HE := hidP (hHeld.2.2.2.2.2.2.2.2.2)
  refine wpAnyH_done (by kernel_rfl) ?_ _
  clear hHeld
  go_wp2_with fail
  go_ret
  exact ⟨rfl, HXB.out.trans (HE.out.mono HXB.out.size)⟩

set_option maxRecDepth 10000 in
set_option maxHeartbeats 400000 in
theorem iPoolOk_c (q : Pl) (w : World) (hpk : pokB q.p.s q.p.H q.p.L q.p.b = true) (h1 : decide (q.p.b ≤ q.n) = true) (hw : IntKind.i64.wrap (q.p.b + 20) = q.p.b + 20) (hm : q.p.b + 20 < (wd q.p.s : Int)) :
    Calls Tryz.prog 71 #[.agg #[.bool q.p.s, .int .i64 q.p.H.toInt, .int .i64 q.p.L.toInt, .int .i64 q.p.b, .int .i64 q.n]] w fun e w' => e = .returned (.bool (decide (q.n ≤ q.p.b + 20))) ∧ Below w.heap.size w w' := by
  have HP := hidP (iPrefixOk_any q.p.s q.p.H q.p.L q.p.b)
  have HWd := hidP (width_any q.p.s q.p.H.toInt q.p.L.toInt)
  rw [hpk] at HP
  go_enter Tryz.func71, Tryz.ntmps71
  go_wp2_with fail
  obtain ⟨x0, x1, x2, x3, x4⟩ := boxPl (q := q) w 86
  have xB := alloc_below w (.cells #[.bool q.p.s, .int .i64 q.p.H.toInt, .int .i64 q.p.L.toInt, .int .i64 q.p.b, .int .i64 q.n] 86)
  have xL := alloc_lt w (.cells #[.bool q.p.s, .int .i64 q.p.H.toInt, .int .i64 q.p.L.toInt, .int .i64 q.p.b, .int .i64 q.n] 86)
  have xS : (w.alloc (.cells #[.bool q.p.s, .int .i64 q.p.H.toInt, .int .i64 q.p.L.toInt, .int .i64 q.p.b, .int .i64 q.n] 86)).heap.size = w.heap.size + 1 := by simp
  generalize w.alloc (.cells #[.bool q.p.s, .int .i64 q.p.H.toInt, .int .i64 q.p.L.toInt, .int .i64 q.p.b, .int .i64 q.n] 86) = W1 at *
  obtain ⟨y0, y1, y2, y3⟩ := box4 (p := q.p) W1 65
  have yB := alloc_below W1 (.cells #[.bool q.p.s, .int .i64 q.p.H.toInt, .int .i64 q.p.L.toInt, .int .i64 q.p.b] 65)
  have yL := alloc_lt W1 (.cells #[.bool q.p.s, .int .i64 q.p.H.toInt, .int .i64 q.p.L.toInt, .int .i64 q.p.b] 65)
  have yS : (W1.alloc (.cells #[.bool q.p.s, .int .i64 q.p.H.toInt, .int .i64 q.p.L.toInt, .int .i64 q.p.b] 65)).heap.size = W1.heap.size + 1 := by simp
  generalize W1.alloc (.cells #[.bool q.p.s, .int .i64 q.p.H.toInt, .int .i64 q.p.L.toInt, .int .i64 q.p.b] 65) = W2 at *
  rw [xS] at y0 y1 y2 y3 yL yS
  have z0 := (yB.cell xL).trans x0
  have z1 := (yB.cell xL).trans x1
  have z2 := (yB.cell xL).trans x2
  have z3 := (yB.cell xL).trans x3
  have z4 := (yB.cell xL).trans x4
  have zL : w.heap.size < W2.heap.size := by omega
  have HXB := hidP (xB.trans (yB.mono xB.size))
  clear x0 x1 x2 x3 x4 xB yB xS yS xL
  have HSx : Hid (∀ x, Below W2.heap.size W2 x → (x.cell? ⟨w.heap.size, 0, none⟩ = some (.bool q.p.s) ∧ x.cell? ⟨w.heap.size, 1, none⟩ = some (.int .i64 q.p.H.toInt) ∧ x.cell? ⟨w.heap.size, 2, none⟩ = some (.int .i64 q.p.L.toInt) ∧ x.cell? ⟨w.heap.size, 3, none⟩ = some (.int .i64 q.p.b) ∧ x.cell? ⟨w.heap.size, 4, none⟩ = some (.int .i64 q.n) ∧ x.cell? ⟨w.heap.size + 1, 0, none⟩ = some (.bool q.p.s) ∧ x.cell? ⟨w.heap.size + 1, 1, none⟩ = some (.int .i64 q.p.H.toInt) ∧ x.cell? ⟨w.heap.size + 1, 2, none⟩ = some (.int .i64 q.p.L.toInt) ∧ x.cell? ⟨w.heap.size + 1, 3, none⟩ = some (.int .i64 q.p.b) ∧ Below W2.heap.size W2 x)) := hidP fun x h =>
    ⟨(h.cell zL).trans z0, (h.cell zL).trans z1, (h.cell zL).trans z2, (h.cell zL).trans z3, (h.cell zL).trans z4, (h.cell yL).trans y0, (h.cell yL).trans y1, (h.cell yL).trans y2, (h.cell yL).trans y3, h⟩
  refine wp_region_held_drew (S := (fun x => x.cell? ⟨w.heap.size, 0, none⟩ = some (.bool q.p.s) ∧ x.cell? ⟨w.heap.size, 1, none⟩ = some (.int .i64 q.p.H.toInt) ∧ x.cell? ⟨w.heap.size, 2, none⟩ = some (.int .i64 q.p.L.toInt) ∧ x.cell? ⟨w.heap.size, 3, none⟩ = some (.int .i64 q.p.b) ∧ x.cell? ⟨w.heap.size, 4, none⟩ = some (.int .i64 q.n) ∧ x.cell? ⟨w.heap.size + 1, 0, none⟩ = some (.bool q.p.s) ∧ x.cell? ⟨w.heap.size + 1, 1, none⟩ = some (.int .i64 q.p.H.toInt) ∧ x.cell? ⟨w.heap.size + 1, 2, none⟩ = some (.int .i64 q.p.L.toInt) ∧ x.cell? ⟨w.heap.size + 1, 3, none⟩ = some (.int .i64 q.p.b) ∧ Below W2.heap.size W2 x)) (by kernel_rfl) ?_ (fun hHeld => ?_)
  · try dsimp only
    exact HSx.out _ ((Below.refl _ _).drew)
  refine tkA 0 6 (v := ?_) rfl (by kernel_rfl) (fun _ _ _ h => h) (by rfl) ?_ (by assumption) ?_; rotate_left; · (intro w hSw; (try dsimp only at hSw); go_simp; try with_reducible rfl)
  simp only [pa]
  refine wpAnyH_ready (rs := [1]) (by kernel_rfl) (by simp) ?_
  refine AllReadyH.cons rfl (fun K hK => ?_) AllReadyH.nil
  go_simp
  go_wp2_with (first | (go_at_call 89; refine (HP.out _).mono ?_; rintro e w2 ⟨rfl, hb2⟩; have b2 := (hHeld.2.2.2.2.2.2.2.2.2).trans (hb2.mono (hHeld.2.2.2.2.2.2.2.2.2).size)))
  refine hK.out _ _ ?_ (fun hHeld => ?_)
  · try dsimp only
    exact HSx.out _ b2
  clear hK K
  refine tkA 2 8 (v := ?_) rfl (by kernel_rfl) (fun _ _ _ h => h) (by rfl) ?_ (by assumption) ?_; rotate_left; · (intro w hSw; (try dsimp only at hSw); go_simp; try with_reducible rfl)
  simp only [pa]
  refine tkA 3 9 (v := ?_) rfl (by kernel_rfl) (fun _ _ _ h => h) (by rfl) ?_ (by assumption) ?_; rotate_left; · (intro w hSw; (try dsimp only at hSw); go_simp; try with_reducible rfl)
  simp only [pa]
  refine tkA 4 10 (v := ?_) rfl (by kernel_rfl) (fun _ _ _ h => h) (by rfl) ?_ (by assumption) ?_; rotate_left; · (intro w hSw; (try dsimp only at hSw); go_simp; try with_reducible rfl)
  simp only [pa]
  refine tkA 5 11 (v := ?_) rfl (by kernel_rfl) (fun _ _ _ h => h) (by rfl) ?_ (by assumption) ?_; rotate_left; · (intro w hSw; (try dsimp only at hSw); go_simp; try with_reducible rfl)
  simp only [pa]
  refine tkA 6 12 (v := ?_) rfl (by kernel_rfl) (fun _ _ _ h => h) (by rfl) ?_ (by assumption) ?_; rotate_left; · (intro w hSw; (try dsimp only at hSw); go_simp; try with_reducible rfl)
  simp only [pa]
  refine tkA 7 13 (v := ?_) rfl (by kernel_rfl) (fun _ _ _ h => h) (by rfl) ?_ (by assumption) ?_; rotate_left; · (intro w hSw; (try dsimp only at hSw); go_simp; try with_reducible rfl)
  simp only [pa]
  refine tkA 8 14 (v := ?_) rfl (by kernel_rfl) (fun _ _ _ h => h) (by rfl) ?_ (by assumption) ?_; rotate_left; · (intro w hSw; (try dsimp only at hSw); go_simp; try with_reducible rfl)
  simp only [pa]
  refine tkA 9 15 (v := ?_) rfl (by kernel_rfl) (fun _ _ _ h => h) (by rfl) ?_ (by assumption) ?_; rotate_left; · (intro w hSw; (try dsimp only at hSw); go_simp; try with_reducible rfl)
  simp only [pa]
  refine tkA 10 16 (v := ?_) rfl (by kernel_rfl) (fun _ _ _ h => h) (by rfl) ?_ (by assumption) ?_; rotate_left; · (intro w hSw; (try dsimp only at hSw); go_simp; try with_reducible rfl)
  simp only [pa]
  refine tkA 11 17 (v := ?_) rfl (by kernel_rfl) (fun _ _ _ h => h) (by rfl) ?_ (by assumption) ?_; rotate_left; · (intro w hSw; (try dsimp only at hSw); go_simp; try with_reducible rfl)
  simp only [pa]
  refine tkA 12 18 (v := ?_) rfl (by kernel_rfl) (fun _ _ _ h => h) (by rfl) ?_ (by assumption) ?_; rotate_left; · (intro w hSw; (try dsimp only at hSw); go_simp; try with_reducible rfl)
  simp only [pa]
  refine tkA 13 19 (v := ?_) rfl (by kernel_rfl) (fun _ _ _ h => h) (by rfl) ?_ (by assumption) ?_; rotate_left; · (intro w hSw; (try dsimp only at hSw); go_simp; try with_reducible rfl)
  simp only [pa]
  refine tkA 15 21 (v := ?_) rfl (by kernel_rfl) (fun _ _ _ h => h) (by rfl) ?_ (by assumption) ?_; rotate_left; · (intro w hSw; (try dsimp only at hSw); go_simp; try with_reducible rfl)
  simp only [pa]
  refine tkA 16 22 (v := ?_) rfl (by kernel_rfl) (fun _ _ _ h => h) (by rfl) ?_ (by assumption) ?_; rotate_left; · (intro w hSw; (try dsimp only at hSw); go_simp; try with_reducible rfl)
  simp only [pa]
  refine tkA 17 23 (v := ?_) rfl (by kernel_rfl) (fun _ _ _ h => h) (by rfl) ?_ (by assumption) ?_; rotate_left; · (intro w hSw; (try dsimp only at hSw); go_simp; try with_reducible rfl)
  simp only [pa]
  refine wpAnyH_ready (rs := [14]) (by kernel_rfl) (by simp) ?_
  refine AllReadyH.cons rfl (fun K hK => ?_) AllReadyH.nil
  go_simp
  go_wp2_with (first | (go_at_call 90; refine (HWd.out _).mono ?_; rintro e w3 ⟨rfl, hb3⟩; have b3 := (hHeld.2.2.2.2.2.2.2.2.2).trans (hb3.mono (hHeld.2.2.2.2.2.2.2.2.2).size)))
  refine hK.out _ _ ?_ (fun hHeld => ?_)
  · try dsimp only
    exact HSx.out _ b3
  clear hK K
  refine tkA 18 24 (v := ?_) rfl (by kernel_rfl) (fun _ _ _ h => h) (by rfl) ?_ (by assumption) ?_; rotate_left; · (intro w hSw; (try dsimp only at hSw); go_simp; try with_reducible rfl)
  simp only [pa]
  refine tkA 19 25 (v := ?_) rfl (by kernel_rfl) (fun _ _ _ h => h) (by rfl) ?_ (by assumption) ?_; rotate_left; · (intro w hSw; (try dsimp only at hSw); go_simp; try with_reducible rfl)
  simp only [pa]
  refine tkA 20 26 (v := ?_) rfl (by kernel_rfl) (fun _ _ _ h => h) (by rfl) ?_ (by assumption) ?_; rotate_left; · (intro w hSw; (try dsimp only at hSw); go_simp; try with_reducible rfl)
  simp only [pa]
  refine tkA 21 2 (v := ?_) rfl (by kernel_rfl) (fun _ _ _ h => h) (by rfl) ?_ (by assumption) ?_; rotate_left; · (intro w hSw; (try dsimp only at hSw); go_simp; try with_reducible rfl)
  simp only [pa]
  have HE := hidP (hHeld.2.2.2.2.2.2.2.2.2)
  refine wpAnyH_done (by kernel_rfl) ?_ _
  clear hHeld
  go_wp2_with fail
  go_ret
  exact ⟨rfl, HXB.out.trans (HE.out.mono HXB.out.size)⟩

set_option maxRecDepth 10000 in
set_option maxHeartbeats 400000 in
theorem iPoolOk_d (q : Pl) (w : World) (hpk : pokB q.p.s q.p.H q.p.L q.p.b = true) (h1 : decide (q.p.b ≤ q.n) = true) (hw : IntKind.i64.wrap (q.p.b + 20) = q.p.b + 20) (hm : ¬ q.p.b + 20 < (wd q.p.s : Int)) :
    Calls Tryz.prog 71 #[.agg #[.bool q.p.s, .int .i64 q.p.H.toInt, .int .i64 q.p.L.toInt, .int .i64 q.p.b, .int .i64 q.n]] w fun e w' => e = .returned (.bool (decide (q.n ≤ (wd q.p.s : Int)))) ∧ Below w.heap.size w w' := by
  have HP := hidP (iPrefixOk_any q.p.s q.p.H q.p.L q.p.b)
  have HWd := hidP (width_any q.p.s q.p.H.toInt q.p.L.toInt)
  rw [hpk] at HP
  go_enter Tryz.func71, Tryz.ntmps71
  go_wp2_with fail
  obtain ⟨x0, x1, x2, x3, x4⟩ := boxPl (q := q) w 86
  have xB := alloc_below w (.cells #[.bool q.p.s, .int .i64 q.p.H.toInt, .int .i64 q.p.L.toInt, .int .i64 q.p.b, .int .i64 q.n] 86)
  have xL := alloc_lt w (.cells #[.bool q.p.s, .int .i64 q.p.H.toInt, .int .i64 q.p.L.toInt, .int .i64 q.p.b, .int .i64 q.n] 86)
  have xS : (w.alloc (.cells #[.bool q.p.s, .int .i64 q.p.H.toInt, .int .i64 q.p.L.toInt, .int .i64 q.p.b, .int .i64 q.n] 86)).heap.size = w.heap.size + 1 := by simp
  generalize w.alloc (.cells #[.bool q.p.s, .int .i64 q.p.H.toInt, .int .i64 q.p.L.toInt, .int .i64 q.p.b, .int .i64 q.n] 86) = W1 at *
  obtain ⟨y0, y1, y2, y3⟩ := box4 (p := q.p) W1 65
  have yB := alloc_below W1 (.cells #[.bool q.p.s, .int .i64 q.p.H.toInt, .int .i64 q.p.L.toInt, .int .i64 q.p.b] 65)
  have yL := alloc_lt W1 (.cells #[.bool q.p.s, .int .i64 q.p.H.toInt, .int .i64 q.p.L.toInt, .int .i64 q.p.b] 65)
  have yS : (W1.alloc (.cells #[.bool q.p.s, .int .i64 q.p.H.toInt, .int .i64 q.p.L.toInt, .int .i64 q.p.b] 65)).heap.size = W1.heap.size + 1 := by simp
  generalize W1.alloc (.cells #[.bool q.p.s, .int .i64 q.p.H.toInt, .int .i64 q.p.L.toInt, .int .i64 q.p.b] 65) = W2 at *
  rw [xS] at y0 y1 y2 y3 yL yS
  have z0 := (yB.cell xL).trans x0
  have z1 := (yB.cell xL).trans x1
  have z2 := (yB.cell xL).trans x2
  have z3 := (yB.cell xL).trans x3
  have z4 := (yB.cell xL).trans x4
  have zL : w.heap.size < W2.heap.size := by omega
  have HXB := hidP (xB.trans (yB.mono xB.size))
  clear x0 x1 x2 x3 x4 xB yB xS yS xL
  have HSx : Hid (∀ x, Below W2.heap.size W2 x → (x.cell? ⟨w.heap.size, 0, none⟩ = some (.bool q.p.s) ∧ x.cell? ⟨w.heap.size, 1, none⟩ = some (.int .i64 q.p.H.toInt) ∧ x.cell? ⟨w.heap.size, 2, none⟩ = some (.int .i64 q.p.L.toInt) ∧ x.cell? ⟨w.heap.size, 3, none⟩ = some (.int .i64 q.p.b) ∧ x.cell? ⟨w.heap.size, 4, none⟩ = some (.int .i64 q.n) ∧ x.cell? ⟨w.heap.size + 1, 0, none⟩ = some (.bool q.p.s) ∧ x.cell? ⟨w.heap.size + 1, 1, none⟩ = some (.int .i64 q.p.H.toInt) ∧ x.cell? ⟨w.heap.size + 1, 2, none⟩ = some (.int .i64 q.p.L.toInt) ∧ x.cell? ⟨w.heap.size + 1, 3, none⟩ = some (.int .i64 q.p.b) ∧ Below W2.heap.size W2 x)) := hidP fun x h =>
    ⟨(h.cell zL).trans z0, (h.cell zL).trans z1, (h.cell zL).trans z2, (h.cell zL).trans z3, (h.cell zL).trans z4, (h.cell yL).trans y0, (h.cell yL).trans y1, (h.cell yL).trans y2, (h.cell yL).trans y3, h⟩
  refine wp_region_held_drew (S := (fun x => x.cell? ⟨w.heap.size, 0, none⟩ = some (.bool q.p.s) ∧ x.cell? ⟨w.heap.size, 1, none⟩ = some (.int .i64 q.p.H.toInt) ∧ x.cell? ⟨w.heap.size, 2, none⟩ = some (.int .i64 q.p.L.toInt) ∧ x.cell? ⟨w.heap.size, 3, none⟩ = some (.int .i64 q.p.b) ∧ x.cell? ⟨w.heap.size, 4, none⟩ = some (.int .i64 q.n) ∧ x.cell? ⟨w.heap.size + 1, 0, none⟩ = some (.bool q.p.s) ∧ x.cell? ⟨w.heap.size + 1, 1, none⟩ = some (.int .i64 q.p.H.toInt) ∧ x.cell? ⟨w.heap.size + 1, 2, none⟩ = some (.int .i64 q.p.L.toInt) ∧ x.cell? ⟨w.heap.size + 1, 3, none⟩ = some (.int .i64 q.p.b) ∧ Below W2.heap.size W2 x)) (by kernel_rfl) ?_ (fun hHeld => ?_)
  · try dsimp only
    exact HSx.out _ ((Below.refl _ _).drew)
  refine tkA 0 6 (v := ?_) rfl (by kernel_rfl) (fun _ _ _ h => h) (by rfl) ?_ (by assumption) ?_; rotate_left; · (intro w hSw; (try dsimp only at hSw); go_simp; try with_reducible rfl)
  simp only [pa]
  refine wpAnyH_ready (rs := [1]) (by kernel_rfl) (by simp) ?_
  refine AllReadyH.cons rfl (fun K hK => ?_) AllReadyH.nil
  go_simp
  go_wp2_with (first | (go_at_call 89; refine (HP.out _).mono ?_; rintro e w2 ⟨rfl, hb2⟩; have b2 := (hHeld.2.2.2.2.2.2.2.2.2).trans (hb2.mono (hHeld.2.2.2.2.2.2.2.2.2).size)))
  refine hK.out _ _ ?_ (fun hHeld => ?_)
  · try dsimp only
    exact HSx.out _ b2
  clear hK K
  refine tkA 2 8 (v := ?_) rfl (by kernel_rfl) (fun _ _ _ h => h) (by rfl) ?_ (by assumption) ?_; rotate_left; · (intro w hSw; (try dsimp only at hSw); go_simp; try with_reducible rfl)
  simp only [pa]
  refine tkA 3 9 (v := ?_) rfl (by kernel_rfl) (fun _ _ _ h => h) (by rfl) ?_ (by assumption) ?_; rotate_left; · (intro w hSw; (try dsimp only at hSw); go_simp; try with_reducible rfl)
  simp only [pa]
  refine tkA 4 10 (v := ?_) rfl (by kernel_rfl) (fun _ _ _ h => h) (by rfl) ?_ (by assumption) ?_; rotate_left; · (intro w hSw; (try dsimp only at hSw); go_simp; try with_reducible rfl)
  simp only [pa]
  refine tkA 5 11 (v := ?_) rfl (by kernel_rfl) (fun _ _ _ h => h) (by rfl) ?_ (by assumption) ?_; rotate_left; · (intro w hSw; (try dsimp only at hSw); go_simp; try with_reducible rfl)
  simp only [pa]
  refine tkA 6 12 (v := ?_) rfl (by kernel_rfl) (fun _ _ _ h => h) (by rfl) ?_ (by assumption) ?_; rotate_left; · (intro w hSw; (try dsimp only at hSw); go_simp; try with_reducible rfl)
  simp only [pa]
  refine tkA 7 13 (v := ?_) rfl (by kernel_rfl) (fun _ _ _ h => h) (by rfl) ?_ (by assumption) ?_; rotate_left; · (intro w hSw; (try dsimp only at hSw); go_simp; try with_reducible rfl)
  simp only [pa]
  refine tkA 8 14 (v := ?_) rfl (by kernel_rfl) (fun _ _ _ h => h) (by rfl) ?_ (by assumption) ?_; rotate_left; · (intro w hSw; (try dsimp only at hSw); go_simp; try with_reducible rfl)
  simp only [pa]
  refine tkA 9 15 (v := ?_) rfl (by kernel_rfl) (fun _ _ _ h => h) (by rfl) ?_ (by assumption) ?_; rotate_left; · (intro w hSw; (try dsimp only at hSw); go_simp; try with_reducible rfl)
  simp only [pa]
  refine tkA 10 16 (v := ?_) rfl (by kernel_rfl) (fun _ _ _ h => h) (by rfl) ?_ (by assumption) ?_; rotate_left; · (intro w hSw; (try dsimp only at hSw); go_simp; try with_reducible rfl)
  simp only [pa]
  refine tkA 11 17 (v := ?_) rfl (by kernel_rfl) (fun _ _ _ h => h) (by rfl) ?_ (by assumption) ?_; rotate_left; · (intro w hSw; (try dsimp only at hSw); go_simp; try with_reducible rfl)
  simp only [pa]
  refine tkA 12 18 (v := ?_) rfl (by kernel_rfl) (fun _ _ _ h => h) (by rfl) ?_ (by assumption) ?_; rotate_left; · (intro w hSw; (try dsimp only at hSw); go_simp; try with_reducible rfl)
  simp only [pa]
  refine tkA 13 19 (v := ?_) rfl (by kernel_rfl) (fun _ _ _ h => h) (by rfl) ?_ (by assumption) ?_; rotate_left; · (intro w hSw; (try dsimp only at hSw); go_simp; try with_reducible rfl)
  simp only [pa]
  refine tkA 15 21 (v := ?_) rfl (by kernel_rfl) (fun _ _ _ h => h) (by rfl) ?_ (by assumption) ?_; rotate_left; · (intro w hSw; (try dsimp only at hSw); go_simp; try with_reducible rfl)
  simp only [pa]
  refine tkA 16 22 (v := ?_) rfl (by kernel_rfl) (fun _ _ _ h => h) (by rfl) ?_ (by assumption) ?_; rotate_left; · (intro w hSw; (try dsimp only at hSw); go_simp; try with_reducible rfl)
  simp only [pa]
  refine tkA 17 23 (v := ?_) rfl (by kernel_rfl) (fun _ _ _ h => h) (by rfl) ?_ (by assumption) ?_; rotate_left; · (intro w hSw; (try dsimp only at hSw); go_simp; try with_reducible rfl)
  simp only [pa]
  refine wpAnyH_ready (rs := [14]) (by kernel_rfl) (by simp) ?_
  refine AllReadyH.cons rfl (fun K hK => ?_) AllReadyH.nil
  go_simp
  go_wp2_with (first | (go_at_call 90; refine (HWd.out _).mono ?_; rintro e w3 ⟨rfl, hb3⟩; have b3 := (hHeld.2.2.2.2.2.2.2.2.2).trans (hb3.mono (hHeld.2.2.2.2.2.2.2.2.2).size)))
  refine hK.out _ _ ?_ (fun hHeld => ?_)
  · try dsimp only
    exact HSx.out _ b3
  clear hK K
  refine tkA 18 24 (v := ?_) rfl (by kernel_rfl) (fun _ _ _ h => h) (by rfl) ?_ (by assumption) ?_; rotate_left; · (intro w hSw; (try dsimp only at hSw); go_simp; try with_reducible rfl)
  simp only [pa]
  refine tkA 19 25 (v := ?_) rfl (by kernel_rfl) (fun _ _ _ h => h) (by rfl) ?_ (by assumption) ?_; rotate_left; · (intro w hSw; (try dsimp only at hSw); go_simp; try with_reducible rfl)
  simp only [pa]
  refine tkA 20 26 (v := ?_) rfl (by kernel_rfl) (fun _ _ _ h => h) (by rfl) ?_ (by assumption) ?_; rotate_left; · (intro w hSw; (try dsimp only at hSw); go_simp; try with_reducible rfl)
  simp only [pa]
  refine tkA 21 2 (v := ?_) rfl (by kernel_rfl) (fun _ _ _ h => h) (by rfl) ?_ (by assumption) ?_; rotate_left; · (intro w hSw; (try dsimp only at hSw); go_simp; try with_reducible rfl)
  simp only [pa]
  have HE := hidP (hHeld.2.2.2.2.2.2.2.2.2)
  refine wpAnyH_done (by kernel_rfl) ?_ _
  clear hHeld
  go_wp2_with fail
  go_ret
  exact ⟨rfl, HXB.out.trans (HE.out.mono HXB.out.size)⟩

theorem iPoolOk_any (q : Pl) (w : World) :
    Calls Tryz.prog 71 #[.agg #[.bool q.p.s, .int .i64 q.p.H.toInt, .int .i64 q.p.L.toInt, .int .i64 q.p.b, .int .i64 q.n]] w fun e w' => e = .returned (.bool (okPl q)) ∧ Below w.heap.size w w' := by
  unfold okPl Pf.pk
  cases hpk : pokB q.p.s q.p.H q.p.L q.p.b
  · exact iPoolOk_a q w hpk
  · cases h1 : decide (q.p.b ≤ q.n)
    · exact iPoolOk_b q w hpk h1
    · have hb := (pokB_parts hpk).2.1
      have hwd := wd_le' q.p.s
      have hw : IntKind.i64.wrap (q.p.b + 20) = q.p.b + 20 := by rw [IntKind.wrap_i64]; omega
      by_cases hm : q.p.b + 20 < (wd q.p.s : Int)
      · have := iPoolOk_c q w hpk h1 hw hm
        rw [show (true && (true && (decide (q.n ≤ (wd q.p.s : Int)) && decide (q.n ≤ q.p.b + 20)))) = decide (q.n ≤ q.p.b + 20) by
          rw [Bool.true_and, Bool.true_and, Bool.eq_iff_iff, Bool.and_eq_true, decide_eq_true_eq, decide_eq_true_eq]; omega]
        exact this
      · have := iPoolOk_d q w hpk h1 hw hm
        rw [show (true && (true && (decide (q.n ≤ (wd q.p.s : Int)) && decide (q.n ≤ q.p.b + 20)))) = decide (q.n ≤ (wd q.p.s : Int)) by
          rw [Bool.true_and, Bool.true_and, Bool.eq_iff_iff, Bool.and_eq_true, decide_eq_true_eq, decide_eq_true_eq]; omega]
        exact this

set_option maxRecDepth 10000 in
set_option maxHeartbeats 400000 in
theorem sPoolOk_a (q : Pl) (w : World) (hpk : pokB q.p.s q.p.H q.p.L q.p.b = false) :
    Calls Tryz.prog 35 #[.agg #[.bool q.p.s, .int .i64 q.p.H.toInt, .int .i64 q.p.L.toInt, .int .i64 q.p.b, .int .i64 q.n]] w fun e w' => e = .returned (.bool false) ∧ Below w.heap.size w w' := by
  have HP := hidP (sPrefixOk_any q.p.s q.p.H q.p.L q.p.b)
  have HWd := hidP (l2Width_any q.p.s q.p.H.toInt q.p.L.toInt)
  have HIn := hidP (l1In_any q.n q.p.b (wd q.p.s))
  rw [hpk] at HP
  go_enter Tryz.func35, Tryz.ntmps35
  go_wp2_with fail
  obtain ⟨x0, x1, x2, x3, x4⟩ := boxPl (q := q) w 86
  have xB := alloc_below w (.cells #[.bool q.p.s, .int .i64 q.p.H.toInt, .int .i64 q.p.L.toInt, .int .i64 q.p.b, .int .i64 q.n] 86)
  have xL := alloc_lt w (.cells #[.bool q.p.s, .int .i64 q.p.H.toInt, .int .i64 q.p.L.toInt, .int .i64 q.p.b, .int .i64 q.n] 86)
  have xS : (w.alloc (.cells #[.bool q.p.s, .int .i64 q.p.H.toInt, .int .i64 q.p.L.toInt, .int .i64 q.p.b, .int .i64 q.n] 86)).heap.size = w.heap.size + 1 := by simp
  generalize w.alloc (.cells #[.bool q.p.s, .int .i64 q.p.H.toInt, .int .i64 q.p.L.toInt, .int .i64 q.p.b, .int .i64 q.n] 86) = W1 at *
  have HXB := hidP xB
  clear xB xS
  have HSx : Hid (∀ x, Below W1.heap.size W1 x → (x.cell? ⟨w.heap.size, 0, none⟩ = some (.bool q.p.s) ∧ x.cell? ⟨w.heap.size, 1, none⟩ = some (.int .i64 q.p.H.toInt) ∧ x.cell? ⟨w.heap.size, 2, none⟩ = some (.int .i64 q.p.L.toInt) ∧ x.cell? ⟨w.heap.size, 3, none⟩ = some (.int .i64 q.p.b) ∧ x.cell? ⟨w.heap.size, 4, none⟩ = some (.int .i64 q.n) ∧ Below W1.heap.size W1 x)) := hidP fun x h =>
    ⟨(h.cell xL).trans x0, (h.cell xL).trans x1, (h.cell xL).trans x2, (h.cell xL).trans x3, (h.cell xL).trans x4, h⟩
  refine wp_region_held_drew (S := (fun x => x.cell? ⟨w.heap.size, 0, none⟩ = some (.bool q.p.s) ∧ x.cell? ⟨w.heap.size, 1, none⟩ = some (.int .i64 q.p.H.toInt) ∧ x.cell? ⟨w.heap.size, 2, none⟩ = some (.int .i64 q.p.L.toInt) ∧ x.cell? ⟨w.heap.size, 3, none⟩ = some (.int .i64 q.p.b) ∧ x.cell? ⟨w.heap.size, 4, none⟩ = some (.int .i64 q.n) ∧ Below W1.heap.size W1 x)) (by kernel_rfl) ?_ (fun hHeld => ?_)
  · try dsimp only
    exact HSx.out _ ((Below.refl _ _).drew)
  refine tkA 0 3 (v := ?_) rfl (by kernel_rfl) (fun _ _ _ h => h) (by rfl) ?_ (by assumption) ?_; rotate_left; · (intro w hSw; (try dsimp only at hSw); go_simp; try with_reducible rfl)
  simp only [pa]
  refine tkA 1 4 (v := ?_) rfl (by kernel_rfl) (fun _ _ _ h => h) (by rfl) ?_ (by assumption) ?_; rotate_left; · (intro w hSw; (try dsimp only at hSw); go_simp; try with_reducible rfl)
  simp only [pa]
  refine wpAnyH_ready (rs := [2]) (by kernel_rfl) (by simp) ?_
  refine AllReadyH.cons rfl (fun K hK => ?_) AllReadyH.nil
  go_simp
  go_wp2_with (first | (go_at_call 39; refine (HP.out _).mono ?_; rintro e w2 ⟨rfl, hb2⟩; have b2 := (hHeld.2.2.2.2.2).trans (hb2.mono (hHeld.2.2.2.2.2).size)))
  refine hK.out _ _ ?_ (fun hHeld => ?_)
  · try dsimp only
    exact HSx.out _ b2
  clear hK K
  refine tkA 3 6 (v := ?_) rfl (by kernel_rfl) (fun _ _ _ h => h) (by rfl) ?_ (by assumption) ?_; rotate_left; · (intro w hSw; (try dsimp only at hSw); go_simp; try with_reducible rfl)
  simp only [pa]
  refine wpAnyH_take (i := 4) (oi := ⟨some 7, _, _, _, _, _⟩) (v := undef) rfl (by kernel_rfl) (by kernel_rfl) (by kernel_rfl) (fun _ _ _ h => h) (Or.inr ⟨by rfl, rfl⟩) (by assumption) ?_
  simp only [pa]
  refine wpAnyH_take (i := 5) (oi := ⟨some 8, _, _, _, _, _⟩) (v := undef) rfl (by kernel_rfl) (by kernel_rfl) (by kernel_rfl) (fun _ _ _ h => h) (Or.inr ⟨by rfl, rfl⟩) (by assumption) ?_
  simp only [pa]
  refine wpAnyH_take (i := 6) (oi := ⟨some 9, _, _, _, _, _⟩) (v := undef) rfl (by kernel_rfl) (by kernel_rfl) (by kernel_rfl) (fun _ _ _ h => h) (Or.inr ⟨by rfl, rfl⟩) (by assumption) ?_
  simp only [pa]
  refine wpAnyH_take (i := 7) (oi := ⟨some 10, _, _, _, _, _⟩) (v := undef) rfl (by kernel_rfl) (by kernel_rfl) (by kernel_rfl) (fun _ _ _ h => h) (Or.inr ⟨by rfl, rfl⟩) (by assumption) ?_
  simp only [pa]
  refine wpAnyH_take (i := 8) (oi := ⟨some 11, _, _, _, _, _⟩) (v := undef) rfl (by kernel_rfl) (by kernel_rfl) (by kernel_rfl) (fun _ _ _ h => h) (Or.inr ⟨by rfl, rfl⟩) (by assumption) ?_
  simp only [pa]
  refine wpAnyH_take (i := 9) (oi := ⟨some 12, _, _, _, _, _⟩) (v := undef) rfl (by kernel_rfl) (by kernel_rfl) (by kernel_rfl) (fun _ _ _ h => h) (Or.inr ⟨by rfl, rfl⟩) (by assumption) ?_
  simp only [pa]
  refine wpAnyH_take (i := 10) (oi := ⟨some 13, _, _, _, _, _⟩) (v := undef) rfl (by kernel_rfl) (by kernel_rfl) (by kernel_rfl) (fun _ _ _ h => h) (Or.inr ⟨by rfl, rfl⟩) (by assumption) ?_
  simp only [pa]
  refine wpAnyH_take (i := 11) (oi := ⟨some 14, _, _, _, _, _⟩) (v := undef) rfl (by kernel_rfl) (by kernel_rfl) (by kernel_rfl) (fun _ _ _ h => h) (Or.inr ⟨by rfl, rfl⟩) (by assumption) ?_
  simp only [pa]
  refine wpAnyH_take (i := 12) (oi := ⟨some 15, _, _, _, _, _⟩) (v := undef) rfl (by kernel_rfl) (by kernel_rfl) (by kernel_rfl) (fun _ _ _ h => h) (Or.inr ⟨by rfl, rfl⟩) (by assumption) ?_
  simp only [pa]
  refine wpAnyH_take (i := 13) (oi := ⟨some 16, _, _, _, _, _⟩) (v := undef) rfl (by kernel_rfl) (by kernel_rfl) (by kernel_rfl) (fun _ _ _ h => h) (Or.inr ⟨by rfl, rfl⟩) (by assumption) ?_
  simp only [pa]
  refine tkA 14 17 (v := ?_) rfl (by kernel_rfl) (fun _ _ _ h => h) (by rfl) ?_ (by assumption) ?_; rotate_left; · (intro w hSw; (try dsimp only at hSw); go_simp; try with_reducible rfl)
  simp only [pa]
  refine tkA 15 18 (v := ?_) rfl (by kernel_rfl) (fun _ _ _ h => h) (by rfl) ?_ (by assumption) ?_; rotate_left; · (intro w hSw; (try dsimp only at hSw); go_simp; try with_reducible rfl)
  simp only [pa]
  refine wpAnyH_take (i := 16) (oi := ⟨some 19, _, _, _, _, _⟩) (v := undef) rfl (by kernel_rfl) (by kernel_rfl) (by kernel_rfl) (fun _ _ _ h => h) (Or.inr ⟨by rfl, rfl⟩) (by assumption) ?_
  simp only [pa]
  refine wpAnyH_take (i := 17) (oi := ⟨some 20, _, _, _, _, _⟩) (v := undef) rfl (by kernel_rfl) (by kernel_rfl) (by kernel_rfl) (fun _ _ _ h => h) (Or.inr ⟨by rfl, rfl⟩) (by assumption) ?_
  simp only [pa]
  refine wpAnyH_take (i := 18) (oi := ⟨some 21, _, _, _, _, _⟩) (v := undef) rfl (by kernel_rfl) (by kernel_rfl) (by kernel_rfl) (fun _ _ _ h => h) (Or.inr ⟨by rfl, rfl⟩) (by assumption) ?_
  simp only [pa]
  refine wpAnyH_take (i := 19) (oi := ⟨some 22, _, _, _, _, _⟩) (v := undef) rfl (by kernel_rfl) (by kernel_rfl) (by kernel_rfl) (fun _ _ _ h => h) (Or.inr ⟨by rfl, rfl⟩) (by assumption) ?_
  simp only [pa]
  refine wpAnyH_take (i := 20) (oi := ⟨some 23, _, _, _, _, _⟩) (v := undef) rfl (by kernel_rfl) (by kernel_rfl) (by kernel_rfl) (fun _ _ _ h => h) (Or.inr ⟨by rfl, rfl⟩) (by assumption) ?_
  simp only [pa]
  refine wpAnyH_take (i := 21) (oi := ⟨some 24, _, _, _, _, _⟩) (v := undef) rfl (by kernel_rfl) (by kernel_rfl) (by kernel_rfl) (fun _ _ _ h => h) (Or.inr ⟨by rfl, rfl⟩) (by assumption) ?_
  simp only [pa]
  refine wpAnyH_take (i := 22) (oi := ⟨some 25, _, _, _, _, _⟩) (v := undef) rfl (by kernel_rfl) (by kernel_rfl) (by kernel_rfl) (fun _ _ _ h => h) (Or.inr ⟨by rfl, rfl⟩) (by assumption) ?_
  simp only [pa]
  refine tkA 23 26 (v := ?_) rfl (by kernel_rfl) (fun _ _ _ h => h) (by rfl) ?_ (by assumption) ?_; rotate_left; · (intro w hSw; (try dsimp only at hSw); go_simp; try with_reducible rfl)
  simp only [pa]
  refine tkA 24 2 (v := ?_) rfl (by kernel_rfl) (fun _ _ _ h => h) (by rfl) ?_ (by assumption) ?_; rotate_left; · (intro w hSw; (try dsimp only at hSw); go_simp; try with_reducible rfl)
  simp only [pa]
  have HE := hidP (hHeld.2.2.2.2.2)
  refine wpAnyH_done (by kernel_rfl) ?_ _
  clear hHeld
  go_wp2_with fail
  go_ret
  exact ⟨rfl, HXB.out.trans (HE.out.mono HXB.out.size)⟩

set_option maxRecDepth 10000 in
set_option maxHeartbeats 400000 in
theorem sPoolOk_b (q : Pl) (w : World) (hpk : pokB q.p.s q.p.H q.p.L q.p.b = true) (h1 : decide (q.p.b ≤ q.n ∧ q.n ≤ (wd q.p.s : Int)) = false) :
    Calls Tryz.prog 35 #[.agg #[.bool q.p.s, .int .i64 q.p.H.toInt, .int .i64 q.p.L.toInt, .int .i64 q.p.b, .int .i64 q.n]] w fun e w' => e = .returned (.bool false) ∧ Below w.heap.size w w' := by
  have HP := hidP (sPrefixOk_any q.p.s q.p.H q.p.L q.p.b)
  have HWd := hidP (l2Width_any q.p.s q.p.H.toInt q.p.L.toInt)
  have HIn := hidP (l1In_any q.n q.p.b (wd q.p.s))
  rw [hpk] at HP
  rw [h1] at HIn
  go_enter Tryz.func35, Tryz.ntmps35
  go_wp2_with fail
  obtain ⟨x0, x1, x2, x3, x4⟩ := boxPl (q := q) w 86
  have xB := alloc_below w (.cells #[.bool q.p.s, .int .i64 q.p.H.toInt, .int .i64 q.p.L.toInt, .int .i64 q.p.b, .int .i64 q.n] 86)
  have xL := alloc_lt w (.cells #[.bool q.p.s, .int .i64 q.p.H.toInt, .int .i64 q.p.L.toInt, .int .i64 q.p.b, .int .i64 q.n] 86)
  have xS : (w.alloc (.cells #[.bool q.p.s, .int .i64 q.p.H.toInt, .int .i64 q.p.L.toInt, .int .i64 q.p.b, .int .i64 q.n] 86)).heap.size = w.heap.size + 1 := by simp
  generalize w.alloc (.cells #[.bool q.p.s, .int .i64 q.p.H.toInt, .int .i64 q.p.L.toInt, .int .i64 q.p.b, .int .i64 q.n] 86) = W1 at *
  have HXB := hidP xB
  clear xB xS
  have HSx : Hid (∀ x, Below W1.heap.size W1 x → (x.cell? ⟨w.heap.size, 0, none⟩ = some (.bool q.p.s) ∧ x.cell? ⟨w.heap.size, 1, none⟩ = some (.int .i64 q.p.H.toInt) ∧ x.cell? ⟨w.heap.size, 2, none⟩ = some (.int .i64 q.p.L.toInt) ∧ x.cell? ⟨w.heap.size, 3, none⟩ = some (.int .i64 q.p.b) ∧ x.cell? ⟨w.heap.size, 4, none⟩ = some (.int .i64 q.n) ∧ Below W1.heap.size W1 x)) := hidP fun x h =>
    ⟨(h.cell xL).trans x0, (h.cell xL).trans x1, (h.cell xL).trans x2, (h.cell xL).trans x3, (h.cell xL).trans x4, h⟩
  refine wp_region_held_drew (S := (fun x => x.cell? ⟨w.heap.size, 0, none⟩ = some (.bool q.p.s) ∧ x.cell? ⟨w.heap.size, 1, none⟩ = some (.int .i64 q.p.H.toInt) ∧ x.cell? ⟨w.heap.size, 2, none⟩ = some (.int .i64 q.p.L.toInt) ∧ x.cell? ⟨w.heap.size, 3, none⟩ = some (.int .i64 q.p.b) ∧ x.cell? ⟨w.heap.size, 4, none⟩ = some (.int .i64 q.n) ∧ Below W1.heap.size W1 x)) (by kernel_rfl) ?_ (fun hHeld => ?_)
  · try dsimp only
    exact HSx.out _ ((Below.refl _ _).drew)
  refine tkA 0 3 (v := ?_) rfl (by kernel_rfl) (fun _ _ _ h => h) (by rfl) ?_ (by assumption) ?_; rotate_left; · (intro w hSw; (try dsimp only at hSw); go_simp; try with_reducible rfl)
  simp only [pa]
  refine tkA 1 4 (v := ?_) rfl (by kernel_rfl) (fun _ _ _ h => h) (by rfl) ?_ (by assumption) ?_; rotate_left; · (intro w hSw; (try dsimp only at hSw); go_simp; try with_reducible rfl)
  simp only [pa]
  refine wpAnyH_ready (rs := [2]) (by kernel_rfl) (by simp) ?_
  refine AllReadyH.cons rfl (fun K hK => ?_) AllReadyH.nil
  go_simp
  go_wp2_with (first | (go_at_call 39; refine (HP.out _).mono ?_; rintro e w2 ⟨rfl, hb2⟩; have b2 := (hHeld.2.2.2.2.2).trans (hb2.mono (hHeld.2.2.2.2.2).size)))
  refine hK.out _ _ ?_ (fun hHeld => ?_)
  · try dsimp only
    exact HSx.out _ b2
  clear hK K
  refine tkA 3 6 (v := ?_) rfl (by kernel_rfl) (fun _ _ _ h => h) (by rfl) ?_ (by assumption) ?_; rotate_left; · (intro w hSw; (try dsimp only at hSw); go_simp; try with_reducible rfl)
  simp only [pa]
  refine tkA 4 7 (v := ?_) rfl (by kernel_rfl) (fun _ _ _ h => h) (by rfl) ?_ (by assumption) ?_; rotate_left; · (intro w hSw; (try dsimp only at hSw); go_simp; try with_reducible rfl)
  simp only [pa]
  refine tkA 5 8 (v := ?_) rfl (by kernel_rfl) (fun _ _ _ h => h) (by rfl) ?_ (by assumption) ?_; rotate_left; · (intro w hSw; (try dsimp only at hSw); go_simp; try with_reducible rfl)
  simp only [pa]
  refine tkA 6 9 (v := ?_) rfl (by kernel_rfl) (fun _ _ _ h => h) (by rfl) ?_ (by assumption) ?_; rotate_left; · (intro w hSw; (try dsimp only at hSw); go_simp; try with_reducible rfl)
  simp only [pa]
  refine tkA 7 10 (v := ?_) rfl (by kernel_rfl) (fun _ _ _ h => h) (by rfl) ?_ (by assumption) ?_; rotate_left; · (intro w hSw; (try dsimp only at hSw); go_simp; try with_reducible rfl)
  simp only [pa]
  refine tkA 8 11 (v := ?_) rfl (by kernel_rfl) (fun _ _ _ h => h) (by rfl) ?_ (by assumption) ?_; rotate_left; · (intro w hSw; (try dsimp only at hSw); go_simp; try with_reducible rfl)
  simp only [pa]
  refine tkA 9 12 (v := ?_) rfl (by kernel_rfl) (fun _ _ _ h => h) (by rfl) ?_ (by assumption) ?_; rotate_left; · (intro w hSw; (try dsimp only at hSw); go_simp; try with_reducible rfl)
  simp only [pa]
  refine tkA 10 13 (v := ?_) rfl (by kernel_rfl) (fun _ _ _ h => h) (by rfl) ?_ (by assumption) ?_; rotate_left; · (intro w hSw; (try dsimp only at hSw); go_simp; try with_reducible rfl)
  simp only [pa]
  refine tkA 11 14 (v := ?_) rfl (by kernel_rfl) (fun _ _ _ h => h) (by rfl) ?_ (by assumption) ?_; rotate_left; · (intro w hSw; (try dsimp only at hSw); go_simp; try with_reducible rfl)
  simp only [pa]
  refine wpAnyH_ready (rs := [12]) (by kernel_rfl) (by simp) ?_
  refine AllReadyH.cons rfl (fun K hK => ?_) AllReadyH.nil
  go_simp
  go_wp2_with (first | (go_at_call 62; refine (HWd.out _).mono ?_; rintro e w3 ⟨rfl, hb3⟩; have b3 := (hHeld.2.2.2.2.2).trans (hb3.mono (hHeld.2.2.2.2.2).size)))
  refine hK.out _ _ ?_ (fun hHeld => ?_)
  · try dsimp only
    exact HSx.out _ b3
  clear hK K
  refine wpAnyH_ready (rs := [13]) (by kernel_rfl) (by simp) ?_
  refine AllReadyH.cons rfl (fun K hK => ?_) AllReadyH.nil
  go_simp
  go_wp2_with (first | (go_at_call 41; refine (HIn.out _).mono ?_; rintro e w' ⟨rfl, rfl⟩))
  refine hK.out _ _ ?_ (fun hHeld => ?_)
  · try dsimp only
    exact HSx.out _ (hHeld.2.2.2.2.2)
  clear hK K
  refine tkA 14 17 (v := ?_) rfl (by kernel_rfl) (fun _ _ _ h => h) (by rfl) ?_ (by assumption) ?_; rotate_left; · (intro w hSw; (try dsimp only at hSw); go_simp; try with_reducible rfl)
  simp only [pa]
  refine tkA 15 18 (v := ?_) rfl (by kernel_rfl) (fun _ _ _ h => h) (by rfl) ?_ (by assumption) ?_; rotate_left; · (intro w hSw; (try dsimp only at hSw); go_simp; try with_reducible rfl)
  simp only [pa]
  refine wpAnyH_take (i := 16) (oi := ⟨some 19, _, _, _, _, _⟩) (v := undef) rfl (by kernel_rfl) (by kernel_rfl) (by kernel_rfl) (fun _ _ _ h => h) (Or.inr ⟨by rfl, rfl⟩) (by assumption) ?_
  simp only [pa]
  refine wpAnyH_take (i := 17) (oi := ⟨some 20, _, _, _, _, _⟩) (v := undef) rfl (by kernel_rfl) (by kernel_rfl) (by kernel_rfl) (fun _ _ _ h => h) (Or.inr ⟨by rfl, rfl⟩) (by assumption) ?_
  simp only [pa]
  refine wpAnyH_take (i := 18) (oi := ⟨some 21, _, _, _, _, _⟩) (v := undef) rfl (by kernel_rfl) (by kernel_rfl) (by kernel_rfl) (fun _ _ _ h => h) (Or.inr ⟨by rfl, rfl⟩) (by assumption) ?_
  simp only [pa]
  refine wpAnyH_take (i := 19) (oi := ⟨some 22, _, _, _, _, _⟩) (v := undef) rfl (by kernel_rfl) (by kernel_rfl) (by kernel_rfl) (fun _ _ _ h => h) (Or.inr ⟨by rfl, rfl⟩) (by assumption) ?_
  simp only [pa]
  refine wpAnyH_take (i := 20) (oi := ⟨some 23, _, _, _, _, _⟩) (v := undef) rfl (by kernel_rfl) (by kernel_rfl) (by kernel_rfl) (fun _ _ _ h => h) (Or.inr ⟨by rfl, rfl⟩) (by assumption) ?_
  simp only [pa]
  refine wpAnyH_take (i := 21) (oi := ⟨some 24, _, _, _, _, _⟩) (v := undef) rfl (by kernel_rfl) (by kernel_rfl) (by kernel_rfl) (fun _ _ _ h => h) (Or.inr ⟨by rfl, rfl⟩) (by assumption) ?_
  simp only [pa]
  refine wpAnyH_take (i := 22) (oi := ⟨some 25, _, _, _, _, _⟩) (v := undef) rfl (by kernel_rfl) (by kernel_rfl) (by kernel_rfl) (fun _ _ _ h => h) (Or.inr ⟨by rfl, rfl⟩) (by assumption) ?_
  simp only [pa]
  refine tkA 23 26 (v := ?_) rfl (by kernel_rfl) (fun _ _ _ h => h) (by rfl) ?_ (by assumption) ?_; rotate_left; · (intro w hSw; (try dsimp only at hSw); go_simp; try with_reducible rfl)
  simp only [pa]
  refine tkA 24 2 (v := ?_) rfl (by kernel_rfl) (fun _ _ _ h => h) (by rfl) ?_ (by assumption) ?_; rotate_left; · (intro w hSw; (try dsimp only at hSw); go_simp; try with_reducible rfl)
  simp only [pa]
  have HE := hidP (hHeld.2.2.2.2.2)
  refine wpAnyH_done (by kernel_rfl) ?_ _
  clear hHeld
  go_wp2_with fail
  go_ret
  exact ⟨rfl, HXB.out.trans (HE.out.mono HXB.out.size)⟩

set_option maxRecDepth 10000 in
set_option maxHeartbeats 400000 in
theorem sPoolOk_c (q : Pl) (w : World) (hpk : pokB q.p.s q.p.H q.p.L q.p.b = true) (hw : IntKind.i64.wrap (q.p.b + 20) = q.p.b + 20) (h1 : decide (q.p.b ≤ q.n ∧ q.n ≤ (wd q.p.s : Int)) = true) :
    Calls Tryz.prog 35 #[.agg #[.bool q.p.s, .int .i64 q.p.H.toInt, .int .i64 q.p.L.toInt, .int .i64 q.p.b, .int .i64 q.n]] w fun e w' => e = .returned (.bool (decide (q.n ≤ q.p.b + 20))) ∧ Below w.heap.size w w' := by
  have HP := hidP (sPrefixOk_any q.p.s q.p.H q.p.L q.p.b)
  have HWd := hidP (l2Width_any q.p.s q.p.H.toInt q.p.L.toInt)
  have HIn := hidP (l1In_any q.n q.p.b (wd q.p.s))
  rw [hpk] at HP
  rw [h1] at HIn
  go_enter Tryz.func35, Tryz.ntmps35
  go_wp2_with fail
  obtain ⟨x0, x1, x2, x3, x4⟩ := boxPl (q := q) w 86
  have xB := alloc_below w (.cells #[.bool q.p.s, .int .i64 q.p.H.toInt, .int .i64 q.p.L.toInt, .int .i64 q.p.b, .int .i64 q.n] 86)
  have xL := alloc_lt w (.cells #[.bool q.p.s, .int .i64 q.p.H.toInt, .int .i64 q.p.L.toInt, .int .i64 q.p.b, .int .i64 q.n] 86)
  have xS : (w.alloc (.cells #[.bool q.p.s, .int .i64 q.p.H.toInt, .int .i64 q.p.L.toInt, .int .i64 q.p.b, .int .i64 q.n] 86)).heap.size = w.heap.size + 1 := by simp
  generalize w.alloc (.cells #[.bool q.p.s, .int .i64 q.p.H.toInt, .int .i64 q.p.L.toInt, .int .i64 q.p.b, .int .i64 q.n] 86) = W1 at *
  have HXB := hidP xB
  clear xB xS
  have HSx : Hid (∀ x, Below W1.heap.size W1 x → (x.cell? ⟨w.heap.size, 0, none⟩ = some (.bool q.p.s) ∧ x.cell? ⟨w.heap.size, 1, none⟩ = some (.int .i64 q.p.H.toInt) ∧ x.cell? ⟨w.heap.size, 2, none⟩ = some (.int .i64 q.p.L.toInt) ∧ x.cell? ⟨w.heap.size, 3, none⟩ = some (.int .i64 q.p.b) ∧ x.cell? ⟨w.heap.size, 4, none⟩ = some (.int .i64 q.n) ∧ Below W1.heap.size W1 x)) := hidP fun x h =>
    ⟨(h.cell xL).trans x0, (h.cell xL).trans x1, (h.cell xL).trans x2, (h.cell xL).trans x3, (h.cell xL).trans x4, h⟩
  refine wp_region_held_drew (S := (fun x => x.cell? ⟨w.heap.size, 0, none⟩ = some (.bool q.p.s) ∧ x.cell? ⟨w.heap.size, 1, none⟩ = some (.int .i64 q.p.H.toInt) ∧ x.cell? ⟨w.heap.size, 2, none⟩ = some (.int .i64 q.p.L.toInt) ∧ x.cell? ⟨w.heap.size, 3, none⟩ = some (.int .i64 q.p.b) ∧ x.cell? ⟨w.heap.size, 4, none⟩ = some (.int .i64 q.n) ∧ Below W1.heap.size W1 x)) (by kernel_rfl) ?_ (fun hHeld => ?_)
  · try dsimp only
    exact HSx.out _ ((Below.refl _ _).drew)
  refine tkA 0 3 (v := ?_) rfl (by kernel_rfl) (fun _ _ _ h => h) (by rfl) ?_ (by assumption) ?_; rotate_left; · (intro w hSw; (try dsimp only at hSw); go_simp; try with_reducible rfl)
  simp only [pa]
  refine tkA 1 4 (v := ?_) rfl (by kernel_rfl) (fun _ _ _ h => h) (by rfl) ?_ (by assumption) ?_; rotate_left; · (intro w hSw; (try dsimp only at hSw); go_simp; try with_reducible rfl)
  simp only [pa]
  refine wpAnyH_ready (rs := [2]) (by kernel_rfl) (by simp) ?_
  refine AllReadyH.cons rfl (fun K hK => ?_) AllReadyH.nil
  go_simp
  go_wp2_with (first | (go_at_call 39; refine (HP.out _).mono ?_; rintro e w2 ⟨rfl, hb2⟩; have b2 := (hHeld.2.2.2.2.2).trans (hb2.mono (hHeld.2.2.2.2.2).size)))
  refine hK.out _ _ ?_ (fun hHeld => ?_)
  · try dsimp only
    exact HSx.out _ b2
  clear hK K
  refine tkA 3 6 (v := ?_) rfl (by kernel_rfl) (fun _ _ _ h => h) (by rfl) ?_ (by assumption) ?_; rotate_left; · (intro w hSw; (try dsimp only at hSw); go_simp; try with_reducible rfl)
  simp only [pa]
  refine tkA 4 7 (v := ?_) rfl (by kernel_rfl) (fun _ _ _ h => h) (by rfl) ?_ (by assumption) ?_; rotate_left; · (intro w hSw; (try dsimp only at hSw); go_simp; try with_reducible rfl)
  simp only [pa]
  refine tkA 5 8 (v := ?_) rfl (by kernel_rfl) (fun _ _ _ h => h) (by rfl) ?_ (by assumption) ?_; rotate_left; · (intro w hSw; (try dsimp only at hSw); go_simp; try with_reducible rfl)
  simp only [pa]
  refine tkA 6 9 (v := ?_) rfl (by kernel_rfl) (fun _ _ _ h => h) (by rfl) ?_ (by assumption) ?_; rotate_left; · (intro w hSw; (try dsimp only at hSw); go_simp; try with_reducible rfl)
  simp only [pa]
  refine tkA 7 10 (v := ?_) rfl (by kernel_rfl) (fun _ _ _ h => h) (by rfl) ?_ (by assumption) ?_; rotate_left; · (intro w hSw; (try dsimp only at hSw); go_simp; try with_reducible rfl)
  simp only [pa]
  refine tkA 8 11 (v := ?_) rfl (by kernel_rfl) (fun _ _ _ h => h) (by rfl) ?_ (by assumption) ?_; rotate_left; · (intro w hSw; (try dsimp only at hSw); go_simp; try with_reducible rfl)
  simp only [pa]
  refine tkA 9 12 (v := ?_) rfl (by kernel_rfl) (fun _ _ _ h => h) (by rfl) ?_ (by assumption) ?_; rotate_left; · (intro w hSw; (try dsimp only at hSw); go_simp; try with_reducible rfl)
  simp only [pa]
  refine tkA 10 13 (v := ?_) rfl (by kernel_rfl) (fun _ _ _ h => h) (by rfl) ?_ (by assumption) ?_; rotate_left; · (intro w hSw; (try dsimp only at hSw); go_simp; try with_reducible rfl)
  simp only [pa]
  refine tkA 11 14 (v := ?_) rfl (by kernel_rfl) (fun _ _ _ h => h) (by rfl) ?_ (by assumption) ?_; rotate_left; · (intro w hSw; (try dsimp only at hSw); go_simp; try with_reducible rfl)
  simp only [pa]
  refine wpAnyH_ready (rs := [12]) (by kernel_rfl) (by simp) ?_
  refine AllReadyH.cons rfl (fun K hK => ?_) AllReadyH.nil
  go_simp
  go_wp2_with (first | (go_at_call 62; refine (HWd.out _).mono ?_; rintro e w3 ⟨rfl, hb3⟩; have b3 := (hHeld.2.2.2.2.2).trans (hb3.mono (hHeld.2.2.2.2.2).size)))
  refine hK.out _ _ ?_ (fun hHeld => ?_)
  · try dsimp only
    exact HSx.out _ b3
  clear hK K
  refine wpAnyH_ready (rs := [13]) (by kernel_rfl) (by simp) ?_
  refine AllReadyH.cons rfl (fun K hK => ?_) AllReadyH.nil
  go_simp
  go_wp2_with (first | (go_at_call 41; refine (HIn.out _).mono ?_; rintro e w' ⟨rfl, rfl⟩))
  refine hK.out _ _ ?_ (fun hHeld => ?_)
  · try dsimp only
    exact HSx.out _ (hHeld.2.2.2.2.2)
  clear hK K
  refine tkA 14 17 (v := ?_) rfl (by kernel_rfl) (fun _ _ _ h => h) (by rfl) ?_ (by assumption) ?_; rotate_left; · (intro w hSw; (try dsimp only at hSw); go_simp; try with_reducible rfl)
  simp only [pa]
  refine tkA 15 18 (v := ?_) rfl (by kernel_rfl) (fun _ _ _ h => h) (by rfl) ?_ (by assumption) ?_; rotate_left; · (intro w hSw; (try dsimp only at hSw); go_simp; try with_reducible rfl)
  simp only [pa]
  refine tkA 16 19 (v := ?_) rfl (by kernel_rfl) (fun _ _ _ h => h) (by rfl) ?_ (by assumption) ?_; rotate_left; · (intro w hSw; (try dsimp only at hSw); go_simp; try with_reducible rfl)
  simp only [pa]
  refine tkA 17 20 (v := ?_) rfl (by kernel_rfl) (fun _ _ _ h => h) (by rfl) ?_ (by assumption) ?_; rotate_left; · (intro w hSw; (try dsimp only at hSw); go_simp; try with_reducible rfl)
  simp only [pa]
  refine tkA 18 21 (v := ?_) rfl (by kernel_rfl) (fun _ _ _ h => h) (by rfl) ?_ (by assumption) ?_; rotate_left; · (intro w hSw; (try dsimp only at hSw); go_simp; try with_reducible rfl)
  simp only [pa]
  refine tkA 19 22 (v := ?_) rfl (by kernel_rfl) (fun _ _ _ h => h) (by rfl) ?_ (by assumption) ?_; rotate_left; · (intro w hSw; (try dsimp only at hSw); go_simp; try with_reducible rfl)
  simp only [pa]
  refine tkA 20 23 (v := ?_) rfl (by kernel_rfl) (fun _ _ _ h => h) (by rfl) ?_ (by assumption) ?_; rotate_left; · (intro w hSw; (try dsimp only at hSw); go_simp; try with_reducible rfl)
  simp only [pa]
  refine tkA 21 24 (v := ?_) rfl (by kernel_rfl) (fun _ _ _ h => h) (by rfl) ?_ (by assumption) ?_; rotate_left; · (intro w hSw; (try dsimp only at hSw); go_simp; try with_reducible rfl)
  simp only [pa]
  refine tkA 22 25 (v := ?_) rfl (by kernel_rfl) (fun _ _ _ h => h) (by rfl) ?_ (by assumption) ?_; rotate_left; · (intro w hSw; (try dsimp only at hSw); go_simp; try with_reducible rfl)
  simp only [pa]
  refine tkA 23 26 (v := ?_) rfl (by kernel_rfl) (fun _ _ _ h => h) (by rfl) ?_ (by assumption) ?_; rotate_left; · (intro w hSw; (try dsimp only at hSw); go_simp; try with_reducible rfl)
  simp only [pa]
  refine tkA 24 2 (v := ?_) rfl (by kernel_rfl) (fun _ _ _ h => h) (by rfl) ?_ (by assumption) ?_; rotate_left; · (intro w hSw; (try dsimp only at hSw); go_simp; try with_reducible rfl)
  simp only [pa]
  have HE := hidP (hHeld.2.2.2.2.2)
  refine wpAnyH_done (by kernel_rfl) ?_ _
  clear hHeld
  go_wp2_with fail
  go_ret
  exact ⟨rfl, HXB.out.trans (HE.out.mono HXB.out.size)⟩

theorem sPoolOk_any (q : Pl) (w : World) :
    Calls Tryz.prog 35 #[.agg #[.bool q.p.s, .int .i64 q.p.H.toInt, .int .i64 q.p.L.toInt, .int .i64 q.p.b, .int .i64 q.n]] w fun e w' => e = .returned (.bool (okPl q)) ∧ Below w.heap.size w w' := by
  unfold okPl Pf.pk
  cases hpk : pokB q.p.s q.p.H q.p.L q.p.b
  · exact sPoolOk_a q w hpk
  · have hb := (pokB_parts hpk).2.1
    have hwd := wd_le' q.p.s
    have hw : IntKind.i64.wrap (q.p.b + 20) = q.p.b + 20 := by rw [IntKind.wrap_i64]; omega
    have he : (decide (q.p.b ≤ q.n) && (decide (q.n ≤ (wd q.p.s : Int)) && decide (q.n ≤ q.p.b + 20))) = (decide (q.p.b ≤ q.n ∧ q.n ≤ (wd q.p.s : Int)) && decide (q.n ≤ q.p.b + 20)) := by
      rw [Bool.decide_and, Bool.and_assoc]
    rw [Bool.true_and, he]
    cases h1 : decide (q.p.b ≤ q.n ∧ q.n ≤ (wd q.p.s : Int))
    · exact sPoolOk_b q w hpk h1
    · exact sPoolOk_c q w hpk hw h1

end Go.Proofs.YtplocbpngikohaaGreat
namespace Go.Proofs.YtplocbpngikohaaGreat
open Go.RowKit

/-- The place of the first that f likes. -/
def ixF {α : Type} (f : α → Bool) : Int → List α → Int
  | _, [] => -1
  | i, q :: t => if f q = true then i else ixF f (i + 1) t
theorem ixF_step {α : Type} (f : α → Bool) (ps : List α) (k : Nat) (q : α) (h : ps[k]? = some q) : ixF f k (ps.drop k) = if f q = true then (k : Int) else ixF f ((k + 1 : Nat) : Int) (ps.drop (k + 1)) := by
  have hk : k < ps.length := by
    rcases Nat.lt_or_ge k ps.length with h' | h'
    · exact h'
    · rw [List.getElem?_eq_none h'] at h; cases h
  have e : ps.drop k = q :: ps.drop (k + 1) := by
    rw [List.drop_eq_getElem_cons hk]
    rw [List.getElem?_eq_getElem hk] at h
    cases h; rfl
  rw [e]
  rfl
theorem ixF_any {α : Type} (f : α → Bool) : ∀ (ps : List α) (i : Int), 0 ≤ i → decide (0 ≤ ixF f i ps) = ps.any f
  | [], _, _ => rfl
  | q :: t, i, hi => by
      unfold ixF
      cases h : f q
      · rw [if_neg (by simp), ixF_any f t (i + 1) (by omega), List.any_cons, h, Bool.false_or]
      · rw [if_pos rfl, List.any_cons, h, Bool.true_or]; exact decide_eq_true hi
theorem ret_i {k : IntKind} {a b : Int} (h : a = b) : Ending.returned (.int k a) = .returned (.int k b) := by rw [h]

set_option maxHeartbeats 1000000 in
theorem idx_carved (f : Pl → Bool) (cb : Nat) (a : Option Addr) (n cap : Nat) (ps : List Pl) (w : World) (hn : n = ps.length) (hB : RowG KPl w a ps) (hl : n ≤ 9000000000)
    (hf : ∀ (x : Pl) (W : World), Below w.heap.size w W → Calls Tryz.prog 95 #[.agg #[.bool x.p.s, .int .i64 x.p.H.toInt, .int .i64 x.p.L.toInt, .int .i64 x.p.b, .int .i64 x.n], .pointer (some ⟨cb, 0, none⟩)] W fun e w' => e = .returned (.bool (f x)) ∧ Below W.heap.size W w') :
    Calls Tryz.prog 111 #[.slice a n cap, .func (.func 95) #[] #[.pointer (some ⟨cb, 0, none⟩)]] w fun e w' => e = .returned (.int .i64 (ixF f 0 ps)) ∧ Below w.heap.size w w' := by
  have HB := hidP hB
  have HN := hidP hn
  have HF := hidP hf
  clear hB hn hf
  go_enter Tryz.func111, Tryz.ntmps111
  go_wp2_with fail
  go_loopw [5, 8] (fun _ t8 wr => ∃ k : Nat, k ≤ n ∧ t8 = .int .i64 k ∧ ixF f 0 ps = ixF f k (ps.drop k) ∧ Below w.heap.size w wr) (fun _ t8 _ => n - (intOf t8).toNat)
  case atStart => exact ⟨0, Nat.zero_le _, rfl, rfl, Below.refl _ _⟩
  case round =>
    obtain ⟨k, hk, rfl, hix, hbel⟩ := hrel
    by_cases hlt : k < n
    · obtain ⟨p, o, q, rfl, hp, hq, c0, c1, c2, c3, c4⟩ := rowPl HB.out k (by rw [← HN.out]; exact hlt)
      have d0 := (hbel.cell hp).trans c0
      have d1 := (hbel.cell hp).trans c1
      have d2 := (hbel.cell hp).trans c2
      have d3 := (hbel.cell hp).trans c3
      have d4 := (hbel.cell hp).trans c4
      have HBel := hidP hbel
      have hst := ixF_step f ps k q hq
      rw [hst] at hix
      have HX := hidP hix
      have HFq := hidP (HF.out q _ hbel)
      clear hbel c0 c1 c2 c3 c4 hq hix hst
      cases hfq : f q
      · rw [hfq] at HX HFq
        go_wp2_with (first | (go_at_call 95; refine (HFq.out).mono ?_; rintro e w2 ⟨rfl, hb2⟩))
        have HB2 := hidP (HBel.out.trans (hb2.mono HBel.out.size))
        clear hb2 HBel d0 d1 d2 d3 d4
        go_wp2_with fail
        go_roundw
        case rel => exact ⟨k + 1, by omega, by go_num, by rw [HX.out]; simp, HB2.out⟩
        case measure => simp [intOf]; omega
      · rw [hfq] at HX HFq
        go_wp2_with (first | (go_at_call 95; refine (HFq.out).mono ?_; rintro e w2 ⟨rfl, hb2⟩))
        have HB2 := hidP (HBel.out.trans (hb2.mono HBel.out.size))
        clear hb2 HBel d0 d1 d2 d3 d4
        go_wp2_with fail
        go_ret
        exact ⟨ret_i (by rw [HX.out]; simp), HB2.out⟩
    · have HX : Hid (ixF f 0 ps = -1) := by
        rw [List.drop_of_length_le (by have := HN.out; omega)] at hix
        exact hidP hix
      have HBel := hidP hbel
      clear hbel hix
      go_wp2_with fail
      go_ret
      exact ⟨ret_i HX.out.symm, HBel.out⟩

set_option maxHeartbeats 1000000 in
theorem cont_carved (f : Pl → Bool) (cb : Nat) (a : Option Addr) (n cap : Nat) (ps : List Pl) (w : World) (hn : n = ps.length) (hB : RowG KPl w a ps) (hl : n ≤ 9000000000)
    (hf : ∀ (x : Pl) (W : World), Below w.heap.size w W → Calls Tryz.prog 95 #[.agg #[.bool x.p.s, .int .i64 x.p.H.toInt, .int .i64 x.p.L.toInt, .int .i64 x.p.b, .int .i64 x.n], .pointer (some ⟨cb, 0, none⟩)] W fun e w' => e = .returned (.bool (f x)) ∧ Below W.heap.size W w') :
    Calls Tryz.prog 94 #[.slice a n cap, .func (.func 95) #[] #[.pointer (some ⟨cb, 0, none⟩)]] w fun e w' => e = .returned (.bool (ps.any f)) ∧ Below w.heap.size w w' := by
  have H := hidP (idx_carved f cb a n cap ps w hn hB hl hf)
  have HA := hidP (ixF_any f ps 0 (by omega))
  clear hn hB hl hf
  go_enter Tryz.func94, Tryz.ntmps94
  go_wp2_with fail
  refine (H.out).mono ?_
  rintro e w2 ⟨rfl, hb2⟩
  go_wp2_with fail
  go_ret
  exact ⟨ret_b HA.out, hb2⟩

end Go.Proofs.YtplocbpngikohaaGreat
namespace Go.Proofs.YtplocbpngikohaaGreat
open Go.RowKit

set_option maxHeartbeats 1000000 in
theorem iOverlaps_any (s : Bool) (H L : BitVec 64) (b : Int) (s' : Bool) (H' L' : BitVec 64) (b' : Int) (w : World) :
    Calls Tryz.prog 92 #[.agg #[.bool s, .int .i64 H.toInt, .int .i64 L.toInt, .int .i64 b], .agg #[.bool s', .int .i64 H'.toInt, .int .i64 L'.toInt, .int .i64 b']] w fun e w' => e = .returned (.bool (winB s H L b s' H' L' b' || winB s' H' L' b' s H L b)) ∧ Below w.heap.size w w' := by
  cases hp : pokB s H L b
  · rw [win_no1 hp, win_no2 hp, Bool.or_false]
    have HS : Hid (∀ w, _) := spanOf_no s H L b hp
    clear hp
    cases hq : pokB s' H' L' b'
    · have HT : Hid (∀ w, _) := spanOf_no s' H' L' b' hq
      clear hq
      go_enter Tryz.func92, Tryz.ntmps92
      go_wp2_with fail
      refine (HS.out _).mono ?_
      rintro e w1 ⟨rfl, hb1⟩
      have hz1 := hb1.size
      try simp at hz1
      have f10 : w.heap.size < w1.heap.size := by omega
      have f11 : w.heap.size + 1 < w1.heap.size := by omega
      refine olds_k (w.heap.size + 2) hb1 ?_ ?_
      · first | omega | (simp; omega) | (simp; done)
      intro hc1 hf1
      go_wp2_with fail
      refine (HT.out _).mono ?_
      rintro e w2 ⟨rfl, hb2⟩
      have hz2 := hb2.size
      try simp at hz2
      have f2x0 : w.heap.size < w2.heap.size := by omega
      have f2x1 : w.heap.size + 1 < w2.heap.size := by omega
      have f2x2 : w1.heap.size < w2.heap.size := by omega
      have f2x3 : w.heap.size + 1 < w1.heap.size + 1 := by omega
      refine olds_k (w1.heap.size + 1) hb2 ?_ ?_
      · first | omega | (simp; omega) | (simp; done)
      intro hc2 hf2
      go_wp2_with fail
      go_ret
      refine ⟨rfl, ?_⟩
      repeat (first | with_reducible exact Below.refl _ _ | (with_reducible refine Below.drew ?_) | (with_reducible refine Below.alloc ?_ ?_ _; rotate_left; (focus (first | omega | (simp; omega) | (simp; done)))) | (with_reducible refine Below.setCell ?_ ?_ _; rotate_left; (focus (first | omega | (simp; omega) | (simp; done)))) | (with_reducible refine Below.trans ?_ (hb2.mono ?_); rotate_left; (focus (first | omega | (simp; omega) | (simp; done)))) | (with_reducible refine Below.trans ?_ (hb1.mono ?_); rotate_left; (focus (first | omega | (simp; omega) | (simp; done)))))
    · obtain ⟨m, hm⟩ : ∃ m : Nat, (m : Int) = (wd s' : Int) - b' := ⟨((wd s' : Int) - b').toNat, by have := (pokB_parts hq).2.1; omega⟩
      have HT : Hid (∀ w, _) := spanOf_yes s' H' L' b' m hm hq
      clear hq hm
      go_enter Tryz.func92, Tryz.ntmps92
      go_wp2_with fail
      refine (HS.out _).mono ?_
      rintro e w1 ⟨rfl, hb1⟩
      have hz1 := hb1.size
      try simp at hz1
      have f10 : w.heap.size < w1.heap.size := by omega
      have f11 : w.heap.size + 1 < w1.heap.size := by omega
      refine olds_k (w.heap.size + 2) hb1 ?_ ?_
      · first | omega | (simp; omega) | (simp; done)
      intro hc1 hf1
      go_wp2_with fail
      refine (HT.out _).mono ?_
      rintro e w2 ⟨rfl, hb2⟩
      have hz2 := hb2.size
      try simp at hz2
      have f2x0 : w.heap.size < w2.heap.size := by omega
      have f2x1 : w.heap.size + 1 < w2.heap.size := by omega
      have f2x2 : w1.heap.size < w2.heap.size := by omega
      have f2x3 : w.heap.size + 1 < w1.heap.size + 1 := by omega
      refine olds_k (w1.heap.size + 1) hb2 ?_ ?_
      · first | omega | (simp; omega) | (simp; done)
      intro hc2 hf2
      go_wp2_with fail
      go_ret
      refine ⟨rfl, ?_⟩
      repeat (first | with_reducible exact Below.refl _ _ | (with_reducible refine Below.drew ?_) | (with_reducible refine Below.alloc ?_ ?_ _; rotate_left; (focus (first | omega | (simp; omega) | (simp; done)))) | (with_reducible refine Below.setCell ?_ ?_ _; rotate_left; (focus (first | omega | (simp; omega) | (simp; done)))) | (with_reducible refine Below.trans ?_ (hb2.mono ?_); rotate_left; (focus (first | omega | (simp; omega) | (simp; done)))) | (with_reducible refine Below.trans ?_ (hb1.mono ?_); rotate_left; (focus (first | omega | (simp; omega) | (simp; done)))))
  · obtain ⟨n, hn⟩ : ∃ n : Nat, (n : Int) = (wd s : Int) - b := ⟨((wd s : Int) - b).toNat, by have := (pokB_parts hp).2.1; omega⟩
    have HS : Hid (∀ w, _) := spanOf_yes s H L b n hn hp
    cases hq : pokB s' H' L' b'
    · rw [win_no2 hq, win_no1 hq, Bool.or_false]
      have HT : Hid (∀ w, _) := spanOf_no s' H' L' b' hq
      clear hq hp hn
      go_enter Tryz.func92, Tryz.ntmps92
      go_wp2_with fail
      refine (HS.out _).mono ?_
      rintro e w1 ⟨rfl, hb1⟩
      have hz1 := hb1.size
      try simp at hz1
      have f10 : w.heap.size < w1.heap.size := by omega
      have f11 : w.heap.size + 1 < w1.heap.size := by omega
      refine olds_k (w.heap.size + 2) hb1 ?_ ?_
      · first | omega | (simp; omega) | (simp; done)
      intro hc1 hf1
      go_wp2_with fail
      refine (HT.out _).mono ?_
      rintro e w2 ⟨rfl, hb2⟩
      have hz2 := hb2.size
      try simp at hz2
      have f2x0 : w.heap.size < w2.heap.size := by omega
      have f2x1 : w.heap.size + 1 < w2.heap.size := by omega
      have f2x2 : w1.heap.size < w2.heap.size := by omega
      have f2x3 : w.heap.size + 1 < w1.heap.size + 1 := by omega
      refine olds_k (w1.heap.size + 1) hb2 ?_ ?_
      · first | omega | (simp; omega) | (simp; done)
      intro hc2 hf2
      go_wp2_with fail
      go_ret
      refine ⟨rfl, ?_⟩
      repeat (first | with_reducible exact Below.refl _ _ | (with_reducible refine Below.drew ?_) | (with_reducible refine Below.alloc ?_ ?_ _; rotate_left; (focus (first | omega | (simp; omega) | (simp; done)))) | (with_reducible refine Below.setCell ?_ ?_ _; rotate_left; (focus (first | omega | (simp; omega) | (simp; done)))) | (with_reducible refine Below.trans ?_ (hb2.mono ?_); rotate_left; (focus (first | omega | (simp; omega) | (simp; done)))) | (with_reducible refine Below.trans ?_ (hb1.mono ?_); rotate_left; (focus (first | omega | (simp; omega) | (simp; done)))))
    · obtain ⟨m, hm⟩ : ∃ m : Nat, (m : Int) = (wd s' : Int) - b' := ⟨((wd s' : Int) - b').toNat, by have := (pokB_parts hq).2.1; omega⟩
      rw [win_with hp hq hn hm, win_with hq hp hm hn]
      have hn1 : n ≤ 128 := by have := wd_le' s; have := (pokB_parts hp).2.1; omega
      have hm1 : m ≤ 128 := by have := wd_le' s'; have := (pokB_parts hq).2.1; omega
      have HT : Hid (∀ w, _) := spanOf_yes s' H' L' b' m hm hq
      have HW : Hid (∀ w, _) := overlaps_any s H L n hn1 s' H' L' m hm1
      generalize (withB s H L n s' H' L' m || withB s' H' L' m s H L n) = B1 at HW ⊢
      clear hq hm hp hn
      go_enter Tryz.func92, Tryz.ntmps92
      go_wp2_with fail
      refine (HS.out _).mono ?_
      rintro e w1 ⟨rfl, hb1⟩
      have hz1 := hb1.size
      try simp at hz1
      have f10 : w.heap.size < w1.heap.size := by omega
      have f11 : w.heap.size + 1 < w1.heap.size := by omega
      refine olds_k (w.heap.size + 2) hb1 ?_ ?_
      · first | omega | (simp; omega) | (simp; done)
      intro hc1 hf1
      go_wp2_with fail
      refine (HT.out _).mono ?_
      rintro e w2 ⟨rfl, hb2⟩
      have hz2 := hb2.size
      try simp at hz2
      have f2x0 : w.heap.size < w2.heap.size := by omega
      have f2x1 : w.heap.size + 1 < w2.heap.size := by omega
      have f2x2 : w1.heap.size < w2.heap.size := by omega
      have f2x3 : w.heap.size + 1 < w1.heap.size + 1 := by omega
      refine olds_k (w1.heap.size + 1) hb2 ?_ ?_
      · first | omega | (simp; omega) | (simp; done)
      intro hc2 hf2
      go_wp2_with fail
      refine (HW.out _).mono ?_
      rintro e w3 ⟨rfl, hb3⟩
      have hz3 := hb3.size
      try simp at hz3
      have f30 : w.heap.size < w3.heap.size := by omega
      have f31 : w.heap.size + 1 < w3.heap.size := by omega
      refine olds_k (w.heap.size + 2) hb3 ?_ ?_
      · first | omega | (simp; omega) | (simp; done)
      intro hc3 hf3
      go_wp2_with fail
      go_ret
      refine ⟨rfl, ?_⟩
      repeat (first | with_reducible exact Below.refl _ _ | (with_reducible refine Below.drew ?_) | (with_reducible refine Below.alloc ?_ ?_ _; rotate_left; (focus (first | omega | (simp; omega) | (simp; done)))) | (with_reducible refine Below.setCell ?_ ?_ _; rotate_left; (focus (first | omega | (simp; omega) | (simp; done)))) | (with_reducible refine Below.trans ?_ (hb3.mono ?_); rotate_left; (focus (first | omega | (simp; omega) | (simp; done)))) | (with_reducible refine Below.trans ?_ (hb2.mono ?_); rotate_left; (focus (first | omega | (simp; omega) | (simp; done)))) | (with_reducible refine Below.trans ?_ (hb1.mono ?_); rotate_left; (focus (first | omega | (simp; omega) | (simp; done)))))

end Go.Proofs.YtplocbpngikohaaGreat
namespace Go.Proofs.YtplocbpngikohaaGreat
open Go.RowKit

set_option maxHeartbeats 1000000 in
theorem follows_any (p q : Pf) (hp : p.pk = true) (hq : q.pk = true) (w : World) :
    Calls Tryz.prog 72 #[.agg #[.bool p.s, .int .i64 p.H.toInt, .int .i64 p.L.toInt, .int .i64 p.b], .agg #[.bool q.s, .int .i64 q.H.toInt, .int .i64 q.L.toInt, .int .i64 q.b]] w fun e w' => e = .returned (.bool (folB p q)) ∧ Below w.heap.size w w' := by
  have HC := hidP (iCmpP p q hp hq)
  have HO := hidP (iOverlaps_any p.s p.H p.L p.b q.s q.H q.L q.b)
  change Hid (∀ w, Calls Tryz.prog 92 _ w fun e w' => e = .returned (.bool (ovP p q)) ∧ Below w.heap.size w w') at HO
  unfold folB
  cases h1 : decide (cmpP p q < 0)
  · go_enter Tryz.func72, Tryz.ntmps72
    go_wp2_with fail
    refine (HC.out _).mono ?_
    rintro e w1 ⟨rfl, hb1⟩
    have hz1 := hb1.size
    try simp at hz1
    have f10 : w.heap.size < w1.heap.size := by omega
    have f11 : w.heap.size + 1 < w1.heap.size := by omega
    refine olds_k (w.heap.size + 2) hb1 ?_ ?_
    · first | omega | (simp; omega) | (simp; done)
    intro hc1 hf1
    go_wp2_with fail
    go_ret
    refine ⟨rfl, ?_⟩
    repeat (first | with_reducible exact Below.refl _ _ | (with_reducible refine Below.drew ?_) | (with_reducible refine Below.alloc ?_ ?_ _; rotate_left; (focus (first | omega | (simp; omega) | (simp; done)))) | (with_reducible refine Below.setCell ?_ ?_ _; rotate_left; (focus (first | omega | (simp; omega) | (simp; done)))) | (with_reducible refine Below.trans ?_ (hb1.mono ?_); rotate_left; (focus (first | omega | (simp; omega) | (simp; done)))))
  · generalize ovP p q = r at *
    go_enter Tryz.func72, Tryz.ntmps72
    go_wp2_with fail
    refine (HC.out _).mono ?_
    rintro e w1 ⟨rfl, hb1⟩
    have hz1 := hb1.size
    try simp at hz1
    have f10 : w.heap.size < w1.heap.size := by omega
    have f11 : w.heap.size + 1 < w1.heap.size := by omega
    refine olds_k (w.heap.size + 2) hb1 ?_ ?_
    · first | omega | (simp; omega) | (simp; done)
    intro hc1 hf1
    go_wp2_with fail
    refine (HO.out _).mono ?_
    rintro e w2 ⟨rfl, hb2⟩
    have hz2 := hb2.size
    try simp at hz2
    go_wp2_with fail
    go_ret
    refine ⟨by cases r <;> rfl, ?_⟩
    repeat (first | with_reducible exact Below.refl _ _ | (with_reducible refine Below.drew ?_) | (with_reducible refine Below.alloc ?_ ?_ _; rotate_left; (focus (first | omega | (simp; omega) | (simp; done)))) | (with_reducible refine Below.setCell ?_ ?_ _; rotate_left; (focus (first | omega | (simp; omega) | (simp; done)))) | (with_reducible refine Below.trans ?_ (hb2.mono ?_); rotate_left; (focus (first | omega | (simp; omega) | (simp; done)))) | (with_reducible refine Below.trans ?_ (hb1.mono ?_); rotate_left; (focus (first | omega | (simp; omega) | (simp; done)))))

set_option maxHeartbeats 1000000 in
theorem carved1_any (p : Pf) (q : Pl) (cb : Nat) (w : World) (hcb : cb < w.heap.size) (x0 : w.cell? ⟨cb, 0, none⟩ = some (.bool p.s)) (x1 : w.cell? ⟨cb, 1, none⟩ = some (.int .i64 p.H.toInt)) (x2 : w.cell? ⟨cb, 2, none⟩ = some (.int .i64 p.L.toInt)) (x3 : w.cell? ⟨cb, 3, none⟩ = some (.int .i64 p.b)) :
    Calls Tryz.prog 95 #[.agg #[.bool q.p.s, .int .i64 q.p.H.toInt, .int .i64 q.p.L.toInt, .int .i64 q.p.b, .int .i64 q.n], .pointer (some ⟨cb, 0, none⟩)] w fun e w' => e = .returned (.bool ((p.b == q.n) && winP p q.p)) ∧ Below w.heap.size w w' := by
  have HW := hidP (iWithin_any p.s p.H p.L p.b q.p.s q.p.H q.p.L q.p.b)
  change Hid (∀ w, Calls Tryz.prog 96 _ w fun e w' => e = .returned (.bool (winP p q.p)) ∧ Below w.heap.size w w') at HW
  have hne : cb ≠ w.heap.size := by omega
  cases h1 : (p.b == q.n)
  · go_enter Tryz.func95, Tryz.ntmps95
    go_wp2_with fail
    go_ret
    exact ⟨rfl, (Below.refl _ _).alloc (Nat.le_refl _) _⟩
  · generalize winP p q.p = r at *
    go_enter Tryz.func95, Tryz.ntmps95
    go_wp2_with fail
    refine (HW.out _).mono ?_
    rintro e w1 ⟨rfl, hb1⟩
    go_wp2_with fail
    go_ret
    refine ⟨by cases r <;> rfl, ?_⟩
    repeat (first | with_reducible exact Below.refl _ _ | (with_reducible refine Below.drew ?_) | (with_reducible refine Below.alloc ?_ ?_ _; rotate_left; (focus (first | omega | (simp; omega) | (simp; done)))) | (with_reducible refine Below.setCell ?_ ?_ _; rotate_left; (focus (first | omega | (simp; omega) | (simp; done)))) | (with_reducible refine Below.trans ?_ (hb1.mono ?_); rotate_left; (focus (first | omega | (simp; omega) | (simp; done)))))

set_option maxHeartbeats 1000000 in
theorem isCarved_any (p : Pf) (a : Option Addr) (n cap : Nat) (ps : List Pl) (w : World) (hn : n = ps.length) (hB : RowG KPl w a ps) (hl : n ≤ 9000000000) :
    Calls Tryz.prog 74 #[.slice a n cap, .agg #[.bool p.s, .int .i64 p.H.toInt, .int .i64 p.L.toInt, .int .i64 p.b]] w fun e w' => e = .returned (.bool (carB ps p)) ∧ Below w.heap.size w w' := by
  have HB := hidP hB
  have HN := hidP hn
  clear hB hn
  go_enter Tryz.func74, Tryz.ntmps74
  go_wp2_with fail
  obtain ⟨x0, x1, x2, x3⟩ := box4 (p := p) w 65
  have xB := alloc_below w (.cells #[.bool p.s, .int .i64 p.H.toInt, .int .i64 p.L.toInt, .int .i64 p.b] 65)
  have xL := alloc_lt w (.cells #[.bool p.s, .int .i64 p.H.toInt, .int .i64 p.L.toInt, .int .i64 p.b] 65)
  have xS : (w.alloc (.cells #[.bool p.s, .int .i64 p.H.toInt, .int .i64 p.L.toInt, .int .i64 p.b] 65)).heap.size = w.heap.size + 1 := by simp
  generalize w.alloc (.cells #[.bool p.s, .int .i64 p.H.toInt, .int .i64 p.L.toInt, .int .i64 p.b] 65) = W1 at *
  have HC := hidP (cont_carved (fun q => (p.b == q.n) && winP p q.p) w.heap.size a n cap ps W1 HN.out (HB.out.later xB) hl (fun q W hW => carved1_any p q w.heap.size W (Nat.lt_of_lt_of_le xL hW.size) ((hW.cell xL).trans x0) ((hW.cell xL).trans x1) ((hW.cell xL).trans x2) ((hW.cell xL).trans x3)))
  have HX := hidP xB
  clear xB xS x0 x1 x2 x3
  refine (HC.out).mono ?_
  rintro e w1 ⟨rfl, hb1⟩
  go_wp2_with fail
  go_ret
  exact ⟨rfl, HX.out.trans (hb1.mono HX.out.size)⟩

end Go.Proofs.YtplocbpngikohaaGreat
namespace Go.Proofs.YtplocbpngikohaaGreat
open Go.RowKit

/-- What stands ahead of place k. -/
def prvP (ps : List Pl) : Nat → Option Pf
  | 0 => none
  | j + 1 => (ps[j]?).map (·.p)
def prvB (ps : List Bk) : Nat → Option Pf
  | 0 => none
  | j + 1 => (ps[j]?).map (·.p)
theorem drop_at {α : Type} {ps : List α} {k : Nat} {q : α} (h : ps[k]? = some q) : ps.drop k = q :: ps.drop (k + 1) := by
  have hk : k < ps.length := by
    rcases Nat.lt_or_ge k ps.length with h' | h'
    · exact h'
    · rw [List.getElem?_eq_none h'] at h; cases h
  rw [List.drop_eq_getElem_cons hk]
  rw [List.getElem?_eq_getElem hk] at h
  cases h; rfl
theorem prvP_next {ps : List Pl} {k : Nat} {q : Pl} (h : ps[k]? = some q) : prvP ps (k + 1) = some q.p := by show (ps[k]?).map _ = _; rw [h]; rfl
theorem prvB_next {ps : List Bk} {k : Nat} {q : Bk} (h : ps[k]? = some q) : prvB ps (k + 1) = some q.p := by show (ps[k]?).map _ = _; rw [h]; rfl
theorem below_box {B : Nat} {w wr W x : World} (h1 : Below B w wr) (hB : B ≤ wr.heap.size) (h2 : Below wr.heap.size wr W) (h3 : Below W.heap.size W x) : Below B w x :=
  (h1.trans (h2.mono hB)).trans (h3.mono (Nat.le_trans hB h2.size))

set_option maxRecDepth 10000 in
set_option maxHeartbeats 1000000 in
theorem poolsOk_any (a : Option Addr) (n cap : Nat) (ps : List Pl) (w : World) (hn : n = ps.length) (hB : RowG KPl w a ps) (hl : n ≤ 9000000000) :
    Calls Tryz.prog 49 #[.slice a n cap] w fun e w' => e = .returned (.bool (poolsF none ps)) ∧ Below w.heap.size w w' := by
  have HB := hidP hB
  have HN := hidP hn
  clear hB hn
  go_enter Tryz.func49, Tryz.ntmps49
  go_wp2_with fail
  go_loopw [3, 4, 7] (fun _ _ t7 wr => ∃ k : Nat, k ≤ n ∧ t7 = .int .i64 k ∧ poolsF none ps = poolsF (prvP ps k) (ps.drop k) ∧ (∀ r, prvP ps k = some r → r.pk = true) ∧ Below w.heap.size w wr) (fun _ _ t7 _ => n - (intOf t7).toNat)
  case atStart => exact ⟨0, Nat.zero_le _, rfl, rfl, (fun r h => by cases h), Below.refl _ _⟩
  case round =>
    obtain ⟨k, hk, rfl, hpo, hpr, hbel⟩ := hrel
    by_cases hlt : k < n
    · obtain ⟨p, o, q, rfl, hp, hq, c0, c1, c2, c3, c4⟩ := rowPl HB.out k (by rw [← HN.out]; exact hlt)
      have d0 := (hbel.cell hp).trans c0
      have d1 := (hbel.cell hp).trans c1
      have d2 := (hbel.cell hp).trans c2
      have d3 := (hbel.cell hp).trans c3
      have d4 := (hbel.cell hp).trans c4
      have hpw : p < wr.heap.size := Nat.lt_of_lt_of_le hp hbel.size
      rw [drop_at hq] at hpo
      have hpo' : poolsF none ps = ((okPl q && (match prvP ps k with | none => true | some r => folB r q.p)) && poolsF (some q.p) (ps.drop (k + 1))) := hpo
      have HNx := hidP (prvP_next hq)
      have HPo := hidP hpo'
      have HPr := hidP hpr
      have HBel := hidP hbel
      have HP1 := hidP (iPoolOk_any q)
      clear c0 c1 c2 c3 c4 hq hpo hpo' hpr hbel
      cases hok : okPl q
      · rw [hok] at HP1 HPo
        have HF : Hid (poolsF none ps = false) := hidP (by rw [HPo.out]; rfl)
        clear HPo HPr HNx
        go_wp2_with fail
        obtain ⟨x0, x1, x2, x3, x4⟩ := boxPl (q := q) wr 86
        have xB := alloc_below wr (.cells #[.bool q.p.s, .int .i64 q.p.H.toInt, .int .i64 q.p.L.toInt, .int .i64 q.p.b, .int .i64 q.n] 86)
        have xL := alloc_lt wr (.cells #[.bool q.p.s, .int .i64 q.p.H.toInt, .int .i64 q.p.L.toInt, .int .i64 q.p.b, .int .i64 q.n] 86)
        have xS : (wr.alloc (.cells #[.bool q.p.s, .int .i64 q.p.H.toInt, .int .i64 q.p.L.toInt, .int .i64 q.p.b, .int .i64 q.n] 86)).heap.size = wr.heap.size + 1 := by simp
        generalize wr.alloc (.cells #[.bool q.p.s, .int .i64 q.p.H.toInt, .int .i64 q.p.L.toInt, .int .i64 q.p.b, .int .i64 q.n] 86) = W2 at *
        have HXB := hidP xB
        clear xS
        clear xB
        have HSx : Hid (∀ x, Below W2.heap.size W2 x → (x.cell? ⟨wr.heap.size, 0, none⟩ = some (.bool q.p.s) ∧ x.cell? ⟨wr.heap.size, 1, none⟩ = some (.int .i64 q.p.H.toInt) ∧ x.cell? ⟨wr.heap.size, 2, none⟩ = some (.int .i64 q.p.L.toInt) ∧ x.cell? ⟨wr.heap.size, 3, none⟩ = some (.int .i64 q.p.b) ∧ x.cell? ⟨wr.heap.size, 4, none⟩ = some (.int .i64 q.n) ∧ Below W2.heap.size W2 x)) := hidP fun x h =>
          ⟨(h.cell xL).trans x0, (h.cell xL).trans x1, (h.cell xL).trans x2, (h.cell xL).trans x3, (h.cell xL).trans x4, h⟩
        refine wp_region_held_drew (S := (fun x => x.cell? ⟨wr.heap.size, 0, none⟩ = some (.bool q.p.s) ∧ x.cell? ⟨wr.heap.size, 1, none⟩ = some (.int .i64 q.p.H.toInt) ∧ x.cell? ⟨wr.heap.size, 2, none⟩ = some (.int .i64 q.p.L.toInt) ∧ x.cell? ⟨wr.heap.size, 3, none⟩ = some (.int .i64 q.p.b) ∧ x.cell? ⟨wr.heap.size, 4, none⟩ = some (.int .i64 q.n) ∧ Below W2.heap.size W2 x)) (by kernel_rfl) ?_ (fun hHeld => ?_)
        · try dsimp only
          exact HSx.out _ ((Below.refl _ _).drew)
        refine tkA 0 12 (v := ?_) rfl (by kernel_rfl) (fun _ _ _ h => h) (by rfl) ?_ (by assumption) ?_; rotate_left; · (intro w hSw; (try dsimp only at hSw); go_simp; try with_reducible rfl)
        simp only [pa]
        refine wpAnyH_ready (rs := [1]) (by kernel_rfl) (by simp) ?_
        refine AllReadyH.cons rfl (fun K hK => ?_) AllReadyH.nil
        go_simp
        go_wp2_with (first | (go_at_call 71; refine (HP1.out _).mono ?_; rintro e w2 ⟨rfl, hb2⟩; have b2 := (hHeld.2.2.2.2.2).trans (hb2.mono (hHeld.2.2.2.2.2).size)))
        refine hK.out _ _ ?_ (fun hHeld => ?_)
        · try dsimp only
          exact HSx.out _ b2
        clear hK K
        refine tkA 2 14 (v := ?_) rfl (by kernel_rfl) (fun _ _ _ h => h) (by rfl) ?_ (by assumption) ?_; rotate_left; · (intro w hSw; (try dsimp only at hSw); go_simp; try with_reducible rfl)
        simp only [pa]
        refine tkA 3 15 (v := ?_) rfl (by kernel_rfl) (fun _ _ _ h => h) (by rfl) ?_ (by assumption) ?_; rotate_left; · (intro w hSw; (try dsimp only at hSw); go_simp; try with_reducible rfl)
        simp only [pa]
        refine wpAnyH_take (i := 4) (oi := ⟨some 16, _, _, _, _, _⟩) (v := undef) rfl (by kernel_rfl) (by kernel_rfl) (by kernel_rfl) (fun _ _ _ h => h) (Or.inr ⟨by rfl, rfl⟩) (by assumption) ?_
        simp only [pa]
        refine wpAnyH_take (i := 5) (oi := ⟨some 17, _, _, _, _, _⟩) (v := undef) rfl (by kernel_rfl) (by kernel_rfl) (by kernel_rfl) (fun _ _ _ h => h) (Or.inr ⟨by rfl, rfl⟩) (by assumption) ?_
        simp only [pa]
        refine wpAnyH_take (i := 6) (oi := ⟨some 18, _, _, _, _, _⟩) (v := undef) rfl (by kernel_rfl) (by kernel_rfl) (by kernel_rfl) (fun _ _ _ h => h) (Or.inr ⟨by rfl, rfl⟩) (by assumption) ?_
        simp only [pa]
        refine wpAnyH_take (i := 7) (oi := ⟨some 19, _, _, _, _, _⟩) (v := undef) rfl (by kernel_rfl) (by kernel_rfl) (by kernel_rfl) (fun _ _ _ h => h) (Or.inr ⟨by rfl, rfl⟩) (by assumption) ?_
        simp only [pa]
        refine wpAnyH_take (i := 8) (oi := ⟨some 20, _, _, _, _, _⟩) (v := undef) rfl (by kernel_rfl) (by kernel_rfl) (by kernel_rfl) (fun _ _ _ h => h) (Or.inr ⟨by rfl, rfl⟩) (by assumption) ?_
        simp only [pa]
        refine wpAnyH_take (i := 9) (oi := ⟨some 21, _, _, _, _, _⟩) (v := undef) rfl (by kernel_rfl) (by kernel_rfl) (by kernel_rfl) (fun _ _ _ h => h) (Or.inr ⟨by rfl, rfl⟩) (by assumption) ?_
        simp only [pa]
        refine wpAnyH_take (i := 10) (oi := ⟨some 22, _, _, _, _, _⟩) (v := undef) rfl (by kernel_rfl) (by kernel_rfl) (by kernel_rfl) (fun _ _ _ h => h) (Or.inr ⟨by rfl, rfl⟩) (by assumption) ?_
        simp only [pa]
        refine wpAnyH_take (i := 11) (oi := ⟨some 23, _, _, _, _, _⟩) (v := undef) rfl (by kernel_rfl) (by kernel_rfl) (by kernel_rfl) (fun _ _ _ h => h) (Or.inr ⟨by rfl, rfl⟩) (by assumption) ?_
        simp only [pa]
        refine wpAnyH_take (i := 12) (oi := ⟨some 24, _, _, _, _, _⟩) (v := undef) rfl (by kernel_rfl) (by kernel_rfl) (by kernel_rfl) (fun _ _ _ h => h) (Or.inr ⟨by rfl, rfl⟩) (by assumption) ?_
        simp only [pa]
        refine wpAnyH_take (i := 13) (oi := ⟨some 25, _, _, _, _, _⟩) (v := undef) rfl (by kernel_rfl) (by kernel_rfl) (by kernel_rfl) (fun _ _ _ h => h) (Or.inr ⟨by rfl, rfl⟩) (by assumption) ?_
        simp only [pa]
        refine wpAnyH_take (i := 14) (oi := ⟨some 26, _, _, _, _, _⟩) (v := undef) rfl (by kernel_rfl) (by kernel_rfl) (by kernel_rfl) (fun _ _ _ h => h) (Or.inr ⟨by rfl, rfl⟩) (by assumption) ?_
        simp only [pa]
        refine wpAnyH_take (i := 15) (oi := ⟨some 27, _, _, _, _, _⟩) (v := undef) rfl (by kernel_rfl) (by kernel_rfl) (by kernel_rfl) (fun _ _ _ h => h) (Or.inr ⟨by rfl, rfl⟩) (by assumption) ?_
        simp only [pa]
        refine wpAnyH_take (i := 16) (oi := ⟨some 28, _, _, _, _, _⟩) (v := undef) rfl (by kernel_rfl) (by kernel_rfl) (by kernel_rfl) (fun _ _ _ h => h) (Or.inr ⟨by rfl, rfl⟩) (by assumption) ?_
        simp only [pa]
        refine wpAnyH_take (i := 17) (oi := ⟨some 29, _, _, _, _, _⟩) (v := undef) rfl (by kernel_rfl) (by kernel_rfl) (by kernel_rfl) (fun _ _ _ h => h) (Or.inr ⟨by rfl, rfl⟩) (by assumption) ?_
        simp only [pa]
        refine tkA 18 30 (v := ?_) rfl (by kernel_rfl) (fun _ _ _ h => h) (by rfl) ?_ (by assumption) ?_; rotate_left; · (intro w hSw; (try dsimp only at hSw); go_simp; try with_reducible rfl)
        simp only [pa]
        have HE := hidP (hHeld.2.2.2.2.2)
        refine wpAnyH_done (by kernel_rfl) ?_ _
        clear hHeld
        go_wp2_with fail
        go_ret
        exact ⟨ret_b HF.out.symm, below_box HBel.out HBel.out.size HXB.out HE.out⟩
      · rw [hok] at HP1 HPo
        have HOk := hidP (okPl_pk hok)
        by_cases hk0 : k = 0
        · have g0 : decide ((0 : Int) < (k : Int)) = false := decide_eq_false (by omega)
          have g1 : decide (0 < k) = false := decide_eq_false (by omega)
          have HF : Hid (poolsF none ps = poolsF (some q.p) (ps.drop (k + 1))) := hidP (by rw [HPo.out, hk0]; rfl)
          clear HPo HPr hk0
          go_wp2_with fail
          obtain ⟨x0, x1, x2, x3, x4⟩ := boxPl (q := q) wr 86
          have xB := alloc_below wr (.cells #[.bool q.p.s, .int .i64 q.p.H.toInt, .int .i64 q.p.L.toInt, .int .i64 q.p.b, .int .i64 q.n] 86)
          have xL := alloc_lt wr (.cells #[.bool q.p.s, .int .i64 q.p.H.toInt, .int .i64 q.p.L.toInt, .int .i64 q.p.b, .int .i64 q.n] 86)
          have xS : (wr.alloc (.cells #[.bool q.p.s, .int .i64 q.p.H.toInt, .int .i64 q.p.L.toInt, .int .i64 q.p.b, .int .i64 q.n] 86)).heap.size = wr.heap.size + 1 := by simp
          generalize wr.alloc (.cells #[.bool q.p.s, .int .i64 q.p.H.toInt, .int .i64 q.p.L.toInt, .int .i64 q.p.b, .int .i64 q.n] 86) = W2 at *
          have HXB := hidP xB
          clear xS
          clear xB
          have HSx : Hid (∀ x, Below W2.heap.size W2 x → (x.cell? ⟨wr.heap.size, 0, none⟩ = some (.bool q.p.s) ∧ x.cell? ⟨wr.heap.size, 1, none⟩ = some (.int .i64 q.p.H.toInt) ∧ x.cell? ⟨wr.heap.size, 2, none⟩ = some (.int .i64 q.p.L.toInt) ∧ x.cell? ⟨wr.heap.size, 3, none⟩ = some (.int .i64 q.p.b) ∧ x.cell? ⟨wr.heap.size, 4, none⟩ = some (.int .i64 q.n) ∧ Below W2.heap.size W2 x)) := hidP fun x h =>
            ⟨(h.cell xL).trans x0, (h.cell xL).trans x1, (h.cell xL).trans x2, (h.cell xL).trans x3, (h.cell xL).trans x4, h⟩
          refine wp_region_held_drew (S := (fun x => x.cell? ⟨wr.heap.size, 0, none⟩ = some (.bool q.p.s) ∧ x.cell? ⟨wr.heap.size, 1, none⟩ = some (.int .i64 q.p.H.toInt) ∧ x.cell? ⟨wr.heap.size, 2, none⟩ = some (.int .i64 q.p.L.toInt) ∧ x.cell? ⟨wr.heap.size, 3, none⟩ = some (.int .i64 q.p.b) ∧ x.cell? ⟨wr.heap.size, 4, none⟩ = some (.int .i64 q.n) ∧ Below W2.heap.size W2 x)) (by kernel_rfl) ?_ (fun hHeld => ?_)
          · try dsimp only
            exact HSx.out _ ((Below.refl _ _).drew)
          refine tkA 0 12 (v := ?_) rfl (by kernel_rfl) (fun _ _ _ h => h) (by rfl) ?_ (by assumption) ?_; rotate_left; · (intro w hSw; (try dsimp only at hSw); go_simp; try with_reducible rfl)
          simp only [pa]
          refine wpAnyH_ready (rs := [1]) (by kernel_rfl) (by simp) ?_
          refine AllReadyH.cons rfl (fun K hK => ?_) AllReadyH.nil
          go_simp
          go_wp2_with (first | (go_at_call 71; refine (HP1.out _).mono ?_; rintro e w2 ⟨rfl, hb2⟩; have b2 := (hHeld.2.2.2.2.2).trans (hb2.mono (hHeld.2.2.2.2.2).size)))
          refine hK.out _ _ ?_ (fun hHeld => ?_)
          · try dsimp only
            exact HSx.out _ b2
          clear hK K
          refine tkA 2 14 (v := ?_) rfl (by kernel_rfl) (fun _ _ _ h => h) (by rfl) ?_ (by assumption) ?_; rotate_left; · (intro w hSw; (try dsimp only at hSw); go_simp; try with_reducible rfl)
          simp only [pa]
          refine tkA 3 15 (v := ?_) rfl (by kernel_rfl) (fun _ _ _ h => h) (by rfl) ?_ (by assumption) ?_; rotate_left; · (intro w hSw; (try dsimp only at hSw); go_simp; try with_reducible rfl)
          simp only [pa]
          refine tkA 4 16 (v := ?_) rfl (by kernel_rfl) (fun _ _ _ h => h) (by rfl) ?_ (by assumption) ?_; rotate_left; · (intro w hSw; (try dsimp only at hSw); go_simp; try with_reducible rfl)
          simp only [pa]
          refine tkA 5 17 (v := ?_) rfl (by kernel_rfl) (fun _ _ _ h => h) (by rfl) ?_ (by assumption) ?_; rotate_left; · (intro w hSw; (try dsimp only at hSw); go_simp; try with_reducible rfl)
          simp only [pa]
          refine tkA 6 18 (v := ?_) rfl (by kernel_rfl) (fun _ _ _ h => h) (by rfl) ?_ (by assumption) ?_; rotate_left; · (intro w hSw; (try dsimp only at hSw); go_simp; try with_reducible rfl)
          simp only [pa]
          refine wpAnyH_take (i := 7) (oi := ⟨some 19, _, _, _, _, _⟩) (v := undef) rfl (by kernel_rfl) (by kernel_rfl) (by kernel_rfl) (fun _ _ _ h => h) (Or.inr ⟨by rfl, rfl⟩) (by assumption) ?_
          simp only [pa]
          refine wpAnyH_take (i := 8) (oi := ⟨some 20, _, _, _, _, _⟩) (v := undef) rfl (by kernel_rfl) (by kernel_rfl) (by kernel_rfl) (fun _ _ _ h => h) (Or.inr ⟨by rfl, rfl⟩) (by assumption) ?_
          simp only [pa]
          refine wpAnyH_take (i := 9) (oi := ⟨some 21, _, _, _, _, _⟩) (v := undef) rfl (by kernel_rfl) (by kernel_rfl) (by kernel_rfl) (fun _ _ _ h => h) (Or.inr ⟨by rfl, rfl⟩) (by assumption) ?_
          simp only [pa]
          refine wpAnyH_take (i := 10) (oi := ⟨some 22, _, _, _, _, _⟩) (v := undef) rfl (by kernel_rfl) (by kernel_rfl) (by kernel_rfl) (fun _ _ _ h => h) (Or.inr ⟨by rfl, rfl⟩) (by assumption) ?_
          simp only [pa]
          refine wpAnyH_take (i := 11) (oi := ⟨some 23, _, _, _, _, _⟩) (v := undef) rfl (by kernel_rfl) (by kernel_rfl) (by kernel_rfl) (fun _ _ _ h => h) (Or.inr ⟨by rfl, rfl⟩) (by assumption) ?_
          simp only [pa]
          refine wpAnyH_take (i := 12) (oi := ⟨some 24, _, _, _, _, _⟩) (v := undef) rfl (by kernel_rfl) (by kernel_rfl) (by kernel_rfl) (fun _ _ _ h => h) (Or.inr ⟨by rfl, rfl⟩) (by assumption) ?_
          simp only [pa]
          refine wpAnyH_take (i := 13) (oi := ⟨some 25, _, _, _, _, _⟩) (v := undef) rfl (by kernel_rfl) (by kernel_rfl) (by kernel_rfl) (fun _ _ _ h => h) (Or.inr ⟨by rfl, rfl⟩) (by assumption) ?_
          simp only [pa]
          refine wpAnyH_take (i := 14) (oi := ⟨some 26, _, _, _, _, _⟩) (v := undef) rfl (by kernel_rfl) (by kernel_rfl) (by kernel_rfl) (fun _ _ _ h => h) (Or.inr ⟨by rfl, rfl⟩) (by assumption) ?_
          simp only [pa]
          refine wpAnyH_take (i := 15) (oi := ⟨some 27, _, _, _, _, _⟩) (v := undef) rfl (by kernel_rfl) (by kernel_rfl) (by kernel_rfl) (fun _ _ _ h => h) (Or.inr ⟨by rfl, rfl⟩) (by assumption) ?_
          simp only [pa]
          refine wpAnyH_take (i := 16) (oi := ⟨some 28, _, _, _, _, _⟩) (v := undef) rfl (by kernel_rfl) (by kernel_rfl) (by kernel_rfl) (fun _ _ _ h => h) (Or.inr ⟨by rfl, rfl⟩) (by assumption) ?_
          simp only [pa]
          refine tkA 17 29 (v := ?_) rfl (by kernel_rfl) (fun _ _ _ h => h) (by rfl) ?_ (by assumption) ?_; rotate_left; · (intro w hSw; (try dsimp only at hSw); go_simp; try with_reducible rfl)
          simp only [pa]
          refine tkA 18 30 (v := ?_) rfl (by kernel_rfl) (fun _ _ _ h => h) (by rfl) ?_ (by assumption) ?_; rotate_left; · (intro w hSw; (try dsimp only at hSw); go_simp; try with_reducible rfl)
          simp only [pa]
          have HE := hidP (hHeld.2.2.2.2.2)
          refine wpAnyH_done (by kernel_rfl) ?_ _
          clear hHeld
          go_wp2_with fail
          go_roundw
          case rel => exact ⟨k + 1, by omega, by go_num, by rw [HF.out, HNx.out], (fun r h => by rw [HNx.out] at h; cases h; exact HOk.out), below_box HBel.out HBel.out.size HXB.out HE.out⟩
          case measure => simp [intOf]; omega
        · have g0 : decide ((0 : Int) < (k : Int)) = true := decide_eq_true (by omega)
          have g1 : decide (0 < k) = true := decide_eq_true (by omega)
          obtain ⟨J, hJ⟩ : ∃ J, J = k - 1 := ⟨_, rfl⟩
          have hkJ : k = J + 1 := by omega
          have hJi : (k : Int) - 1 = (J : Int) := by omega
          have hJn : J < n := by omega
          have wJ : IntKind.i64.wrap (J : Int) = (J : Int) := by rw [IntKind.wrap_i64]; omega
          have hJ0 : (0 : Int) ≤ (J : Int) := by omega
          have hJ1 : (J : Int) < (n : Int) := by omega
          obtain ⟨p', o', r, he, hp', hr, c0, c1, c2, c3, c4⟩ := rowPl HB.out J (by rw [← HN.out]; exact hJn)
          simp only [Option.some.injEq, Addr.mk.injEq, and_true] at he
          obtain ⟨rfl, rfl⟩ := he
          have hprv : prvP ps k = some r.p := by rw [hkJ]; exact prvP_next hr
          have hrpk : r.p.pk = true := HPr.out _ hprv
          have HPo2 : Hid (poolsF none ps = ((true && folB r.p q.p) && poolsF (some q.p) (ps.drop (k + 1)))) := hidP (by rw [HPo.out, hprv])
          have HFo := hidP (follows_any r.p q.p hrpk HOk.out)
          have e0 := (HBel.out.cell hp').trans c0
          have e1 := (HBel.out.cell hp').trans c1
          have e2 := (HBel.out.cell hp').trans c2
          have e3 := (HBel.out.cell hp').trans c3
          clear c0 c1 c2 c3 c4 hr hprv hrpk hJ hkJ hk0 HPo HPr
          cases hfo : folB r.p q.p
          · rw [hfo] at HPo2 HFo
            have HF : Hid (poolsF none ps = false) := hidP (by rw [HPo2.out]; rfl)
            clear HPo2
            go_wp2_with fail
            obtain ⟨x0, x1, x2, x3, x4⟩ := boxPl (q := q) wr 86
            have xB := alloc_below wr (.cells #[.bool q.p.s, .int .i64 q.p.H.toInt, .int .i64 q.p.L.toInt, .int .i64 q.p.b, .int .i64 q.n] 86)
            have xL := alloc_lt wr (.cells #[.bool q.p.s, .int .i64 q.p.H.toInt, .int .i64 q.p.L.toInt, .int .i64 q.p.b, .int .i64 q.n] 86)
            have xS : (wr.alloc (.cells #[.bool q.p.s, .int .i64 q.p.H.toInt, .int .i64 q.p.L.toInt, .int .i64 q.p.b, .int .i64 q.n] 86)).heap.size = wr.heap.size + 1 := by simp
            generalize wr.alloc (.cells #[.bool q.p.s, .int .i64 q.p.H.toInt, .int .i64 q.p.L.toInt, .int .i64 q.p.b, .int .i64 q.n] 86) = W2 at *
            have HXB := hidP xB
            clear xS
            have y0 := (xB.cell hpw).trans e0
            have y1 := (xB.cell hpw).trans e1
            have y2 := (xB.cell hpw).trans e2
            have y3 := (xB.cell hpw).trans e3
            have yL : p < W2.heap.size := Nat.lt_of_lt_of_le hpw xB.size
            clear xB
            have HSx : Hid (∀ x, Below W2.heap.size W2 x → (x.cell? ⟨wr.heap.size, 0, none⟩ = some (.bool q.p.s) ∧ x.cell? ⟨wr.heap.size, 1, none⟩ = some (.int .i64 q.p.H.toInt) ∧ x.cell? ⟨wr.heap.size, 2, none⟩ = some (.int .i64 q.p.L.toInt) ∧ x.cell? ⟨wr.heap.size, 3, none⟩ = some (.int .i64 q.p.b) ∧ x.cell? ⟨wr.heap.size, 4, none⟩ = some (.int .i64 q.n) ∧ x.cell? ⟨p, o + J * 5, none⟩ = some (.bool r.p.s) ∧ x.cell? ⟨p, o + J * 5 + 1, none⟩ = some (.int .i64 r.p.H.toInt) ∧ x.cell? ⟨p, o + J * 5 + 2, none⟩ = some (.int .i64 r.p.L.toInt) ∧ x.cell? ⟨p, o + J * 5 + 3, none⟩ = some (.int .i64 r.p.b) ∧ Below W2.heap.size W2 x)) := hidP fun x h =>
              ⟨(h.cell xL).trans x0, (h.cell xL).trans x1, (h.cell xL).trans x2, (h.cell xL).trans x3, (h.cell xL).trans x4, (h.cell yL).trans y0, (h.cell yL).trans y1, (h.cell yL).trans y2, (h.cell yL).trans y3, h⟩
            refine wp_region_held_drew (S := (fun x => x.cell? ⟨wr.heap.size, 0, none⟩ = some (.bool q.p.s) ∧ x.cell? ⟨wr.heap.size, 1, none⟩ = some (.int .i64 q.p.H.toInt) ∧ x.cell? ⟨wr.heap.size, 2, none⟩ = some (.int .i64 q.p.L.toInt) ∧ x.cell? ⟨wr.heap.size, 3, none⟩ = some (.int .i64 q.p.b) ∧ x.cell? ⟨wr.heap.size, 4, none⟩ = some (.int .i64 q.n) ∧ x.cell? ⟨p, o + J * 5, none⟩ = some (.bool r.p.s) ∧ x.cell? ⟨p, o + J * 5 + 1, none⟩ = some (.int .i64 r.p.H.toInt) ∧ x.cell? ⟨p, o + J * 5 + 2, none⟩ = some (.int .i64 r.p.L.toInt) ∧ x.cell? ⟨p, o + J * 5 + 3, none⟩ = some (.int .i64 r.p.b) ∧ Below W2.heap.size W2 x)) (by kernel_rfl) ?_ (fun hHeld => ?_)
            · try dsimp only
              exact HSx.out _ ((Below.refl _ _).drew)
            refine tkA 0 12 (v := ?_) rfl (by kernel_rfl) (fun _ _ _ h => h) (by rfl) ?_ (by assumption) ?_; rotate_left; · (intro w hSw; (try dsimp only at hSw); go_simp; try with_reducible rfl)
            simp only [pa]
            refine wpAnyH_ready (rs := [1]) (by kernel_rfl) (by simp) ?_
            refine AllReadyH.cons rfl (fun K hK => ?_) AllReadyH.nil
            go_simp
            go_wp2_with (first | (go_at_call 71; refine (HP1.out _).mono ?_; rintro e w2 ⟨rfl, hb2⟩; have b2 := (hHeld.2.2.2.2.2.2.2.2.2).trans (hb2.mono (hHeld.2.2.2.2.2.2.2.2.2).size)))
            refine hK.out _ _ ?_ (fun hHeld => ?_)
            · try dsimp only
              exact HSx.out _ b2
            clear hK K
            refine tkA 2 14 (v := ?_) rfl (by kernel_rfl) (fun _ _ _ h => h) (by rfl) ?_ (by assumption) ?_; rotate_left; · (intro w hSw; (try dsimp only at hSw); go_simp; try with_reducible rfl)
            simp only [pa]
            refine tkA 3 15 (v := ?_) rfl (by kernel_rfl) (fun _ _ _ h => h) (by rfl) ?_ (by assumption) ?_; rotate_left; · (intro w hSw; (try dsimp only at hSw); go_simp; try with_reducible rfl)
            simp only [pa]
            refine tkA 4 16 (v := ?_) rfl (by kernel_rfl) (fun _ _ _ h => h) (by rfl) ?_ (by assumption) ?_; rotate_left; · (intro w hSw; (try dsimp only at hSw); go_simp; try with_reducible rfl)
            simp only [pa]
            refine tkA 5 17 (v := ?_) rfl (by kernel_rfl) (fun _ _ _ h => h) (by rfl) ?_ (by assumption) ?_; rotate_left; · (intro w hSw; (try dsimp only at hSw); go_simp; try with_reducible rfl)
            simp only [pa]
            refine tkA 6 18 (v := ?_) rfl (by kernel_rfl) (fun _ _ _ h => h) (by rfl) ?_ (by assumption) ?_; rotate_left; · (intro w hSw; (try dsimp only at hSw); go_simp; try with_reducible rfl)
            simp only [pa]
            refine tkA 7 19 (v := ?_) rfl (by kernel_rfl) (fun _ _ _ h => h) (by rfl) ?_ (by assumption) ?_; rotate_left; · (intro w hSw; (try dsimp only at hSw); go_simp; try with_reducible rfl)
            simp only [pa]
            refine tkA 8 20 (v := ?_) rfl (by kernel_rfl) (fun _ _ _ h => h) (by rfl) ?_ (by assumption) ?_; rotate_left; · (intro w hSw; (try dsimp only at hSw); go_simp; try with_reducible rfl)
            simp only [pa]
            refine tkA 9 21 (v := ?_) rfl (by kernel_rfl) (fun _ _ _ h => h) (by rfl) ?_ (by assumption) ?_; rotate_left; · (intro w hSw; (try dsimp only at hSw); go_simp; try with_reducible rfl)
            simp only [pa]
            refine tkA 10 22 (v := ?_) rfl (by kernel_rfl) (fun _ _ _ h => h) (by rfl) ?_ (by assumption) ?_; rotate_left; · (intro w hSw; (try dsimp only at hSw); go_simp; try with_reducible rfl)
            simp only [pa]
            refine tkA 11 23 (v := ?_) rfl (by kernel_rfl) (fun _ _ _ h => h) (by rfl) ?_ (by assumption) ?_; rotate_left; · (intro w hSw; (try dsimp only at hSw); go_simp; try with_reducible rfl)
            simp only [pa]
            refine tkA 12 24 (v := ?_) rfl (by kernel_rfl) (fun _ _ _ h => h) (by rfl) ?_ (by assumption) ?_; rotate_left; · (intro w hSw; (try dsimp only at hSw); go_simp; try with_reducible rfl)
            simp only [pa]
            refine tkA 13 25 (v := ?_) rfl (by kernel_rfl) (fun _ _ _ h => h) (by rfl) ?_ (by assumption) ?_; rotate_left; · (intro w hSw; (try dsimp only at hSw); go_simp; try with_reducible rfl)
            simp only [pa]
            refine tkA 14 26 (v := ?_) rfl (by kernel_rfl) (fun _ _ _ h => h) (by rfl) ?_ (by assumption) ?_; rotate_left; · (intro w hSw; (try dsimp only at hSw); go_simp; try with_reducible rfl)
            simp only [pa]
            refine wpAnyH_ready (rs := [15]) (by kernel_rfl) (by simp) ?_
            refine AllReadyH.cons rfl (fun K hK => ?_) AllReadyH.nil
            go_simp
            go_wp2_with (first | (go_at_call 72; refine (HFo.out _).mono ?_; rintro e w3 ⟨rfl, hb3⟩; have b3 := (hHeld.2.2.2.2.2.2.2.2.2).trans (hb3.mono (hHeld.2.2.2.2.2.2.2.2.2).size)))
            refine hK.out _ _ ?_ (fun hHeld => ?_)
            · try dsimp only
              exact HSx.out _ b3
            clear hK K
            refine tkA 16 28 (v := ?_) rfl (by kernel_rfl) (fun _ _ _ h => h) (by rfl) ?_ (by assumption) ?_; rotate_left; · (intro w hSw; (try dsimp only at hSw); go_simp; try with_reducible rfl)
            simp only [pa]
            refine tkA 17 29 (v := ?_) rfl (by kernel_rfl) (fun _ _ _ h => h) (by rfl) ?_ (by assumption) ?_; rotate_left; · (intro w hSw; (try dsimp only at hSw); go_simp; try with_reducible rfl)
            simp only [pa]
            refine tkA 18 30 (v := ?_) rfl (by kernel_rfl) (fun _ _ _ h => h) (by rfl) ?_ (by assumption) ?_; rotate_left; · (intro w hSw; (try dsimp only at hSw); go_simp; try with_reducible rfl)
            simp only [pa]
            have HE := hidP (hHeld.2.2.2.2.2.2.2.2.2)
            refine wpAnyH_done (by kernel_rfl) ?_ _
            clear hHeld
            go_wp2_with fail
            go_ret
            exact ⟨ret_b HF.out.symm, below_box HBel.out HBel.out.size HXB.out HE.out⟩
          · rw [hfo] at HPo2 HFo
            have HF : Hid (poolsF none ps = poolsF (some q.p) (ps.drop (k + 1))) := hidP (by rw [HPo2.out]; rfl)
            clear HPo2
            go_wp2_with fail
            obtain ⟨x0, x1, x2, x3, x4⟩ := boxPl (q := q) wr 86
            have xB := alloc_below wr (.cells #[.bool q.p.s, .int .i64 q.p.H.toInt, .int .i64 q.p.L.toInt, .int .i64 q.p.b, .int .i64 q.n] 86)
            have xL := alloc_lt wr (.cells #[.bool q.p.s, .int .i64 q.p.H.toInt, .int .i64 q.p.L.toInt, .int .i64 q.p.b, .int .i64 q.n] 86)
            have xS : (wr.alloc (.cells #[.bool q.p.s, .int .i64 q.p.H.toInt, .int .i64 q.p.L.toInt, .int .i64 q.p.b, .int .i64 q.n] 86)).heap.size = wr.heap.size + 1 := by simp
            generalize wr.alloc (.cells #[.bool q.p.s, .int .i64 q.p.H.toInt, .int .i64 q.p.L.toInt, .int .i64 q.p.b, .int .i64 q.n] 86) = W2 at *
            have HXB := hidP xB
            clear xS
            have y0 := (xB.cell hpw).trans e0
            have y1 := (xB.cell hpw).trans e1
            have y2 := (xB.cell hpw).trans e2
            have y3 := (xB.cell hpw).trans e3
            have yL : p < W2.heap.size := Nat.lt_of_lt_of_le hpw xB.size
            clear xB
            have HSx : Hid (∀ x, Below W2.heap.size W2 x → (x.cell? ⟨wr.heap.size, 0, none⟩ = some (.bool q.p.s) ∧ x.cell? ⟨wr.heap.size, 1, none⟩ = some (.int .i64 q.p.H.toInt) ∧ x.cell? ⟨wr.heap.size, 2, none⟩ = some (.int .i64 q.p.L.toInt) ∧ x.cell? ⟨wr.heap.size, 3, none⟩ = some (.int .i64 q.p.b) ∧ x.cell? ⟨wr.heap.size, 4, none⟩ = some (.int .i64 q.n) ∧ x.cell? ⟨p, o + J * 5, none⟩ = some (.bool r.p.s) ∧ x.cell? ⟨p, o + J * 5 + 1, none⟩ = some (.int .i64 r.p.H.toInt) ∧ x.cell? ⟨p, o + J * 5 + 2, none⟩ = some (.int .i64 r.p.L.toInt) ∧ x.cell? ⟨p, o + J * 5 + 3, none⟩ = some (.int .i64 r.p.b) ∧ Below W2.heap.size W2 x)) := hidP fun x h =>
              ⟨(h.cell xL).trans x0, (h.cell xL).trans x1, (h.cell xL).trans x2, (h.cell xL).trans x3, (h.cell xL).trans x4, (h.cell yL).trans y0, (h.cell yL).trans y1, (h.cell yL).trans y2, (h.cell yL).trans y3, h⟩
            refine wp_region_held_drew (S := (fun x => x.cell? ⟨wr.heap.size, 0, none⟩ = some (.bool q.p.s) ∧ x.cell? ⟨wr.heap.size, 1, none⟩ = some (.int .i64 q.p.H.toInt) ∧ x.cell? ⟨wr.heap.size, 2, none⟩ = some (.int .i64 q.p.L.toInt) ∧ x.cell? ⟨wr.heap.size, 3, none⟩ = some (.int .i64 q.p.b) ∧ x.cell? ⟨wr.heap.size, 4, none⟩ = some (.int .i64 q.n) ∧ x.cell? ⟨p, o + J * 5, none⟩ = some (.bool r.p.s) ∧ x.cell? ⟨p, o + J * 5 + 1, none⟩ = some (.int .i64 r.p.H.toInt) ∧ x.cell? ⟨p, o + J * 5 + 2, none⟩ = some (.int .i64 r.p.L.toInt) ∧ x.cell? ⟨p, o + J * 5 + 3, none⟩ = some (.int .i64 r.p.b) ∧ Below W2.heap.size W2 x)) (by kernel_rfl) ?_ (fun hHeld => ?_)
            · try dsimp only
              exact HSx.out _ ((Below.refl _ _).drew)
            refine tkA 0 12 (v := ?_) rfl (by kernel_rfl) (fun _ _ _ h => h) (by rfl) ?_ (by assumption) ?_; rotate_left; · (intro w hSw; (try dsimp only at hSw); go_simp; try with_reducible rfl)
            simp only [pa]
            refine wpAnyH_ready (rs := [1]) (by kernel_rfl) (by simp) ?_
            refine AllReadyH.cons rfl (fun K hK => ?_) AllReadyH.nil
            go_simp
            go_wp2_with (first | (go_at_call 71; refine (HP1.out _).mono ?_; rintro e w2 ⟨rfl, hb2⟩; have b2 := (hHeld.2.2.2.2.2.2.2.2.2).trans (hb2.mono (hHeld.2.2.2.2.2.2.2.2.2).size)))
            refine hK.out _ _ ?_ (fun hHeld => ?_)
            · try dsimp only
              exact HSx.out _ b2
            clear hK K
            refine tkA 2 14 (v := ?_) rfl (by kernel_rfl) (fun _ _ _ h => h) (by rfl) ?_ (by assumption) ?_; rotate_left; · (intro w hSw; (try dsimp only at hSw); go_simp; try with_reducible rfl)
            simp only [pa]
            refine tkA 3 15 (v := ?_) rfl (by kernel_rfl) (fun _ _ _ h => h) (by rfl) ?_ (by assumption) ?_; rotate_left; · (intro w hSw; (try dsimp only at hSw); go_simp; try with_reducible rfl)
            simp only [pa]
            refine tkA 4 16 (v := ?_) rfl (by kernel_rfl) (fun _ _ _ h => h) (by rfl) ?_ (by assumption) ?_; rotate_left; · (intro w hSw; (try dsimp only at hSw); go_simp; try with_reducible rfl)
            simp only [pa]
            refine tkA 5 17 (v := ?_) rfl (by kernel_rfl) (fun _ _ _ h => h) (by rfl) ?_ (by assumption) ?_; rotate_left; · (intro w hSw; (try dsimp only at hSw); go_simp; try with_reducible rfl)
            simp only [pa]
            refine tkA 6 18 (v := ?_) rfl (by kernel_rfl) (fun _ _ _ h => h) (by rfl) ?_ (by assumption) ?_; rotate_left; · (intro w hSw; (try dsimp only at hSw); go_simp; try with_reducible rfl)
            simp only [pa]
            refine tkA 7 19 (v := ?_) rfl (by kernel_rfl) (fun _ _ _ h => h) (by rfl) ?_ (by assumption) ?_; rotate_left; · (intro w hSw; (try dsimp only at hSw); go_simp; try with_reducible rfl)
            simp only [pa]
            refine tkA 8 20 (v := ?_) rfl (by kernel_rfl) (fun _ _ _ h => h) (by rfl) ?_ (by assumption) ?_; rotate_left; · (intro w hSw; (try dsimp only at hSw); go_simp; try with_reducible rfl)
            simp only [pa]
            refine tkA 9 21 (v := ?_) rfl (by kernel_rfl) (fun _ _ _ h => h) (by rfl) ?_ (by assumption) ?_; rotate_left; · (intro w hSw; (try dsimp only at hSw); go_simp; try with_reducible rfl)
            simp only [pa]
            refine tkA 10 22 (v := ?_) rfl (by kernel_rfl) (fun _ _ _ h => h) (by rfl) ?_ (by assumption) ?_; rotate_left; · (intro w hSw; (try dsimp only at hSw); go_simp; try with_reducible rfl)
            simp only [pa]
            refine tkA 11 23 (v := ?_) rfl (by kernel_rfl) (fun _ _ _ h => h) (by rfl) ?_ (by assumption) ?_; rotate_left; · (intro w hSw; (try dsimp only at hSw); go_simp; try with_reducible rfl)
            simp only [pa]
            refine tkA 12 24 (v := ?_) rfl (by kernel_rfl) (fun _ _ _ h => h) (by rfl) ?_ (by assumption) ?_; rotate_left; · (intro w hSw; (try dsimp only at hSw); go_simp; try with_reducible rfl)
            simp only [pa]
            refine tkA 13 25 (v := ?_) rfl (by kernel_rfl) (fun _ _ _ h => h) (by rfl) ?_ (by assumption) ?_; rotate_left; · (intro w hSw; (try dsimp only at hSw); go_simp; try with_reducible rfl)
            simp only [pa]
            refine tkA 14 26 (v := ?_) rfl (by kernel_rfl) (fun _ _ _ h => h) (by rfl) ?_ (by assumption) ?_; rotate_left; · (intro w hSw; (try dsimp only at hSw); go_simp; try with_reducible rfl)
            simp only [pa]
            refine wpAnyH_ready (rs := [15]) (by kernel_rfl) (by simp) ?_
            refine AllReadyH.cons rfl (fun K hK => ?_) AllReadyH.nil
            go_simp
            go_wp2_with (first | (go_at_call 72; refine (HFo.out _).mono ?_; rintro e w3 ⟨rfl, hb3⟩; have b3 := (hHeld.2.2.2.2.2.2.2.2.2).trans (hb3.mono (hHeld.2.2.2.2.2.2.2.2.2).size)))
            refine hK.out _ _ ?_ (fun hHeld => ?_)
            · try dsimp only
              exact HSx.out _ b3
            clear hK K
            refine tkA 16 28 (v := ?_) rfl (by kernel_rfl) (fun _ _ _ h => h) (by rfl) ?_ (by assumption) ?_; rotate_left; · (intro w hSw; (try dsimp only at hSw); go_simp; try with_reducible rfl)
            simp only [pa]
            refine tkA 17 29 (v := ?_) rfl (by kernel_rfl) (fun _ _ _ h => h) (by rfl) ?_ (by assumption) ?_; rotate_left; · (intro w hSw; (try dsimp only at hSw); go_simp; try with_reducible rfl)
            simp only [pa]
            refine tkA 18 30 (v := ?_) rfl (by kernel_rfl) (fun _ _ _ h => h) (by rfl) ?_ (by assumption) ?_; rotate_left; · (intro w hSw; (try dsimp only at hSw); go_simp; try with_reducible rfl)
            simp only [pa]
            have HE := hidP (hHeld.2.2.2.2.2.2.2.2.2)
            refine wpAnyH_done (by kernel_rfl) ?_ _
            clear hHeld
            go_wp2_with fail
            go_roundw
            case rel => exact ⟨k + 1, by omega, by go_num, by rw [HF.out, HNx.out], (fun r h => by rw [HNx.out] at h; cases h; exact HOk.out), below_box HBel.out HBel.out.size HXB.out HE.out⟩
            case measure => simp [intOf]; omega
    · have HF : Hid (poolsF none ps = true) := by
        rw [List.drop_of_length_le (by have := HN.out; omega)] at hpo
        exact hidP hpo
      have HBel := hidP hbel
      clear hbel hpo hpr
      go_wp2_with fail
      go_ret
      exact ⟨ret_b HF.out.symm, HBel.out⟩

end Go.Proofs.YtplocbpngikohaaGreat
namespace Go.Proofs.YtplocbpngikohaaGreat
open Go.RowKit

theorem box2 {u v : Value} (w : World) (t : TypeId) : (w.alloc (.cells #[u, v] t)).cell? ⟨w.heap.size, 0, none⟩ = some u ∧ (w.alloc (.cells #[u, v] t)).cell? ⟨w.heap.size, 1, none⟩ = some v := by
  exact ⟨by simp [go_sem], by simp [go_sem]⟩

set_option maxRecDepth 10000 in
set_option maxHeartbeats 4000000 in
theorem blocksOk_any (ap : Option Addr) (np cp : Nat) (ab : Option Addr) (nb cb : Nat) (ps : List Pl) (bs : List Bk) (w : World) (hnp : np = ps.length) (hnb : nb = bs.length) (hP : RowG KPl w ap ps) (hK : RowG KBk w ab bs) (hlp : np ≤ 9000000000) (hl : nb ≤ 9000000000) (hst : ∀ q ∈ bs, q.t.size ≤ 9223372036854775807) :
    Calls Tryz.prog 50 #[.agg #[.slice ap np cp, .slice ab nb cb]] w fun e w' => e = .returned (.bool (blocksI ps none bs)) ∧ Below w.heap.size w w' := by
  have HBP := hidP hP
  have HB := hidP hK
  have HNP := hidP hnp
  have HN := hidP hnb
  have HST := hidP hst
  clear hP hK hnp hnb hst
  go_enter Tryz.func50, Tryz.ntmps50
  go_wp2_with fail
  obtain ⟨u0, u1⟩ := box2 (u := .slice ap np cp) (v := .slice ab nb cb) w 39
  have uB := alloc_below w (.cells #[.slice ap np cp, .slice ab nb cb] 39)
  have uL := alloc_lt w (.cells #[.slice ap np cp, .slice ab nb cb] 39)
  have uS : (w.alloc (.cells #[.slice ap np cp, .slice ab nb cb] 39)).heap.size = w.heap.size + 1 := by simp
  generalize w.alloc (.cells #[.slice ap np cp, .slice ab nb cb] 39) = W1 at *
  have HUB := hidP uB
  have HP1 := hidP (HBP.out.later uB)
  have HB1 := hidP (HB.out.later uB)
  clear uB uS HBP HB
  go_loopw [3, 4, 8] (fun _ _ t8 wr => ∃ k : Nat, k ≤ nb ∧ t8 = .int .i64 k ∧ blocksI ps none bs = blocksI ps (prvB bs k) (bs.drop k) ∧ (∀ r, prvB bs k = some r → carB ps r = true) ∧ Below W1.heap.size W1 wr) (fun _ _ t8 _ => nb - (intOf t8).toNat)
  case atStart => exact ⟨0, Nat.zero_le _, rfl, rfl, (fun r h => by cases h), Below.refl _ _⟩
  case round =>
    obtain ⟨k, hk, rfl, hpo, hpr, hbel⟩ := hrel
    by_cases hlt : k < nb
    · obtain ⟨p, o, q, rfl, hp, hq, c0, c1, c2, c3, c4⟩ := rowBk HB1.out k (by rw [← HN.out]; exact hlt)
      have d0 := (hbel.cell hp).trans c0
      have d1 := (hbel.cell hp).trans c1
      have d2 := (hbel.cell hp).trans c2
      have d3 := (hbel.cell hp).trans c3
      have d4 := (hbel.cell hp).trans c4
      have v0 := (hbel.cell uL).trans u0
      have v1 := (hbel.cell uL).trans u1
      have hpw : p < wr.heap.size := Nat.lt_of_lt_of_le hp hbel.size
      have huw : w.heap.size < wr.heap.size := Nat.lt_of_lt_of_le uL hbel.size
      rw [drop_at hq] at hpo
      have hpo' : blocksI ps none bs = (((ownB q.t && carB ps q.p) && (match prvB bs k with | none => true | some r => folB r q.p)) && blocksI ps (some q.p) (bs.drop (k + 1))) := hpo
      have HNx := hidP (prvB_next hq)
      have HPo := hidP hpo'
      have HPr := hidP hpr
      have HBel := hidP hbel
      have HOw := hidP (fun w => iOwnerOk_any q.t w (HST.out q (List.mem_of_getElem? hq)))
      have HCa := hidP (fun W h => isCarved_any q.p ap np cp ps W HNP.out (HP1.out.later h) hlp)
      clear c0 c1 c2 c3 c4 hq hpo hpo' hpr hbel
      cases hok : ownB q.t
      · rw [hok] at HOw HPo
        have HF : Hid (blocksI ps none bs = false) := hidP (by rw [HPo.out]; rfl)
        clear HPo HPr HNx
        go_wp2_with fail
        obtain ⟨x0, x1, x2, x3, x4⟩ := boxBk (q := q) wr 67
        have xB := alloc_below wr (.cells #[.bool q.p.s, .int .i64 q.p.H.toInt, .int .i64 q.p.L.toInt, .int .i64 q.p.b, .string q.t] 67)
        have xL := alloc_lt wr (.cells #[.bool q.p.s, .int .i64 q.p.H.toInt, .int .i64 q.p.L.toInt, .int .i64 q.p.b, .string q.t] 67)
        have xS : (wr.alloc (.cells #[.bool q.p.s, .int .i64 q.p.H.toInt, .int .i64 q.p.L.toInt, .int .i64 q.p.b, .string q.t] 67)).heap.size = wr.heap.size + 1 := by simp
        generalize wr.alloc (.cells #[.bool q.p.s, .int .i64 q.p.H.toInt, .int .i64 q.p.L.toInt, .int .i64 q.p.b, .string q.t] 67) = W2 at *
        have HXB := hidP xB
        clear xS
        have r0 := (xB.cell huw).trans v0
        have r1 := (xB.cell huw).trans v1
        have rL : w.heap.size < W2.heap.size := Nat.lt_of_lt_of_le huw xB.size
        clear xB
        have HSx : Hid (∀ x, Below W2.heap.size W2 x → (x.cell? ⟨wr.heap.size, 0, none⟩ = some (.bool q.p.s) ∧ x.cell? ⟨wr.heap.size, 1, none⟩ = some (.int .i64 q.p.H.toInt) ∧ x.cell? ⟨wr.heap.size, 2, none⟩ = some (.int .i64 q.p.L.toInt) ∧ x.cell? ⟨wr.heap.size, 3, none⟩ = some (.int .i64 q.p.b) ∧ x.cell? ⟨wr.heap.size, 4, none⟩ = some (.string q.t) ∧ x.cell? ⟨w.heap.size, 0, none⟩ = some (.slice ap np cp) ∧ x.cell? ⟨w.heap.size, 1, none⟩ = some (.slice (some ⟨p, o, none⟩) nb cb) ∧ Below W2.heap.size W2 x)) := hidP fun x h =>
          ⟨(h.cell xL).trans x0, (h.cell xL).trans x1, (h.cell xL).trans x2, (h.cell xL).trans x3, (h.cell xL).trans x4, (h.cell rL).trans r0, (h.cell rL).trans r1, h⟩
        refine wp_region_held_drew (S := (fun x => x.cell? ⟨wr.heap.size, 0, none⟩ = some (.bool q.p.s) ∧ x.cell? ⟨wr.heap.size, 1, none⟩ = some (.int .i64 q.p.H.toInt) ∧ x.cell? ⟨wr.heap.size, 2, none⟩ = some (.int .i64 q.p.L.toInt) ∧ x.cell? ⟨wr.heap.size, 3, none⟩ = some (.int .i64 q.p.b) ∧ x.cell? ⟨wr.heap.size, 4, none⟩ = some (.string q.t) ∧ x.cell? ⟨w.heap.size, 0, none⟩ = some (.slice ap np cp) ∧ x.cell? ⟨w.heap.size, 1, none⟩ = some (.slice (some ⟨p, o, none⟩) nb cb) ∧ Below W2.heap.size W2 x)) (by kernel_rfl) ?_ (fun hHeld => ?_)
        · try dsimp only
          exact HSx.out _ ((Below.refl _ _).drew)
        refine tkA 0 13 (v := ?_) rfl (by kernel_rfl) (fun _ _ _ h => h) (by rfl) ?_ (by assumption) ?_; rotate_left; · (intro w hSw; (try dsimp only at hSw); go_simp; try with_reducible rfl)
        simp only [pa]
        refine tkA 1 14 (v := ?_) rfl (by kernel_rfl) (fun _ _ _ h => h) (by rfl) ?_ (by assumption) ?_; rotate_left; · (intro w hSw; (try dsimp only at hSw); go_simp; try with_reducible rfl)
        simp only [pa]
        refine wpAnyH_ready (rs := [2]) (by kernel_rfl) (by simp) ?_
        refine AllReadyH.cons rfl (fun K hK => ?_) AllReadyH.nil
        go_simp
        go_wp2_with (first | (go_at_call 73; refine (HOw.out _).mono ?_; rintro e w' ⟨rfl, rfl⟩))
        refine hK.out _ _ ?_ (fun hHeld => ?_)
        · try dsimp only
          exact HSx.out _ (hHeld.2.2.2.2.2.2.2)
        clear hK K
        refine tkA 3 16 (v := ?_) rfl (by kernel_rfl) (fun _ _ _ h => h) (by rfl) ?_ (by assumption) ?_; rotate_left; · (intro w hSw; (try dsimp only at hSw); go_simp; try with_reducible rfl)
        simp only [pa]
        refine tkA 4 17 (v := ?_) rfl (by kernel_rfl) (fun _ _ _ h => h) (by rfl) ?_ (by assumption) ?_; rotate_left; · (intro w hSw; (try dsimp only at hSw); go_simp; try with_reducible rfl)
        simp only [pa]
        refine wpAnyH_take (i := 5) (oi := ⟨some 18, _, _, _, _, _⟩) (v := undef) rfl (by kernel_rfl) (by kernel_rfl) (by kernel_rfl) (fun _ _ _ h => h) (Or.inr ⟨by rfl, rfl⟩) (by assumption) ?_
        simp only [pa]
        refine wpAnyH_take (i := 6) (oi := ⟨some 19, _, _, _, _, _⟩) (v := undef) rfl (by kernel_rfl) (by kernel_rfl) (by kernel_rfl) (fun _ _ _ h => h) (Or.inr ⟨by rfl, rfl⟩) (by assumption) ?_
        simp only [pa]
        refine wpAnyH_take (i := 7) (oi := ⟨some 20, _, _, _, _, _⟩) (v := undef) rfl (by kernel_rfl) (by kernel_rfl) (by kernel_rfl) (fun _ _ _ h => h) (Or.inr ⟨by rfl, rfl⟩) (by assumption) ?_
        simp only [pa]
        refine wpAnyH_take (i := 8) (oi := ⟨some 21, _, _, _, _, _⟩) (v := undef) rfl (by kernel_rfl) (by kernel_rfl) (by kernel_rfl) (fun _ _ _ h => h) (Or.inr ⟨by rfl, rfl⟩) (by assumption) ?_
        simp only [pa]
        refine wpAnyH_take (i := 9) (oi := ⟨some 22, _, _, _, _, _⟩) (v := undef) rfl (by kernel_rfl) (by kernel_rfl) (by kernel_rfl) (fun _ _ _ h => h) (Or.inr ⟨by rfl, rfl⟩) (by assumption) ?_
        simp only [pa]
        refine wpAnyH_take (i := 10) (oi := ⟨some 23, _, _, _, _, _⟩) (v := undef) rfl (by kernel_rfl) (by kernel_rfl) (by kernel_rfl) (fun _ _ _ h => h) (Or.inr ⟨by rfl, rfl⟩) (by assumption) ?_
        simp only [pa]
        refine tkA 11 24 (v := ?_) rfl (by kernel_rfl) (fun _ _ _ h => h) (by rfl) ?_ (by assumption) ?_; rotate_left; · (intro w hSw; (try dsimp only at hSw); go_simp; try with_reducible rfl)
        simp only [pa]
        refine tkA 12 25 (v := ?_) rfl (by kernel_rfl) (fun _ _ _ h => h) (by rfl) ?_ (by assumption) ?_; rotate_left; · (intro w hSw; (try dsimp only at hSw); go_simp; try with_reducible rfl)
        simp only [pa]
        refine wpAnyH_take (i := 13) (oi := ⟨some 26, _, _, _, _, _⟩) (v := undef) rfl (by kernel_rfl) (by kernel_rfl) (by kernel_rfl) (fun _ _ _ h => h) (Or.inr ⟨by rfl, rfl⟩) (by assumption) ?_
        simp only [pa]
        refine wpAnyH_take (i := 14) (oi := ⟨some 27, _, _, _, _, _⟩) (v := undef) rfl (by kernel_rfl) (by kernel_rfl) (by kernel_rfl) (fun _ _ _ h => h) (Or.inr ⟨by rfl, rfl⟩) (by assumption) ?_
        simp only [pa]
        refine wpAnyH_take (i := 15) (oi := ⟨some 28, _, _, _, _, _⟩) (v := undef) rfl (by kernel_rfl) (by kernel_rfl) (by kernel_rfl) (fun _ _ _ h => h) (Or.inr ⟨by rfl, rfl⟩) (by assumption) ?_
        simp only [pa]
        refine wpAnyH_take (i := 16) (oi := ⟨some 29, _, _, _, _, _⟩) (v := undef) rfl (by kernel_rfl) (by kernel_rfl) (by kernel_rfl) (fun _ _ _ h => h) (Or.inr ⟨by rfl, rfl⟩) (by assumption) ?_
        simp only [pa]
        refine wpAnyH_take (i := 17) (oi := ⟨some 30, _, _, _, _, _⟩) (v := undef) rfl (by kernel_rfl) (by kernel_rfl) (by kernel_rfl) (fun _ _ _ h => h) (Or.inr ⟨by rfl, rfl⟩) (by assumption) ?_
        simp only [pa]
        refine wpAnyH_take (i := 18) (oi := ⟨some 31, _, _, _, _, _⟩) (v := undef) rfl (by kernel_rfl) (by kernel_rfl) (by kernel_rfl) (fun _ _ _ h => h) (Or.inr ⟨by rfl, rfl⟩) (by assumption) ?_
        simp only [pa]
        refine wpAnyH_take (i := 19) (oi := ⟨some 32, _, _, _, _, _⟩) (v := undef) rfl (by kernel_rfl) (by kernel_rfl) (by kernel_rfl) (fun _ _ _ h => h) (Or.inr ⟨by rfl, rfl⟩) (by assumption) ?_
        simp only [pa]
        refine wpAnyH_take (i := 20) (oi := ⟨some 33, _, _, _, _, _⟩) (v := undef) rfl (by kernel_rfl) (by kernel_rfl) (by kernel_rfl) (fun _ _ _ h => h) (Or.inr ⟨by rfl, rfl⟩) (by assumption) ?_
        simp only [pa]
        refine wpAnyH_take (i := 21) (oi := ⟨some 34, _, _, _, _, _⟩) (v := undef) rfl (by kernel_rfl) (by kernel_rfl) (by kernel_rfl) (fun _ _ _ h => h) (Or.inr ⟨by rfl, rfl⟩) (by assumption) ?_
        simp only [pa]
        refine wpAnyH_take (i := 22) (oi := ⟨some 35, _, _, _, _, _⟩) (v := undef) rfl (by kernel_rfl) (by kernel_rfl) (by kernel_rfl) (fun _ _ _ h => h) (Or.inr ⟨by rfl, rfl⟩) (by assumption) ?_
        simp only [pa]
        refine wpAnyH_take (i := 23) (oi := ⟨some 36, _, _, _, _, _⟩) (v := undef) rfl (by kernel_rfl) (by kernel_rfl) (by kernel_rfl) (fun _ _ _ h => h) (Or.inr ⟨by rfl, rfl⟩) (by assumption) ?_
        simp only [pa]
        refine wpAnyH_take (i := 24) (oi := ⟨some 37, _, _, _, _, _⟩) (v := undef) rfl (by kernel_rfl) (by kernel_rfl) (by kernel_rfl) (fun _ _ _ h => h) (Or.inr ⟨by rfl, rfl⟩) (by assumption) ?_
        simp only [pa]
        refine wpAnyH_take (i := 25) (oi := ⟨some 38, _, _, _, _, _⟩) (v := undef) rfl (by kernel_rfl) (by kernel_rfl) (by kernel_rfl) (fun _ _ _ h => h) (Or.inr ⟨by rfl, rfl⟩) (by assumption) ?_
        simp only [pa]
        refine wpAnyH_take (i := 26) (oi := ⟨some 39, _, _, _, _, _⟩) (v := undef) rfl (by kernel_rfl) (by kernel_rfl) (by kernel_rfl) (fun _ _ _ h => h) (Or.inr ⟨by rfl, rfl⟩) (by assumption) ?_
        simp only [pa]
        refine wpAnyH_take (i := 27) (oi := ⟨some 40, _, _, _, _, _⟩) (v := undef) rfl (by kernel_rfl) (by kernel_rfl) (by kernel_rfl) (fun _ _ _ h => h) (Or.inr ⟨by rfl, rfl⟩) (by assumption) ?_
        simp only [pa]
        refine tkA 28 41 (v := ?_) rfl (by kernel_rfl) (fun _ _ _ h => h) (by rfl) ?_ (by assumption) ?_; rotate_left; · (intro w hSw; (try dsimp only at hSw); go_simp; try with_reducible rfl)
        simp only [pa]
        have HE := hidP (hHeld.2.2.2.2.2.2.2)
        refine wpAnyH_done (by kernel_rfl) ?_ _
        clear hHeld
        go_wp2_with fail
        go_ret
        exact ⟨ret_b HF.out.symm, HUB.out.trans ((below_box HBel.out HBel.out.size HXB.out HE.out).mono HUB.out.size)⟩
      · rw [hok] at HOw HPo
        cases hca : carB ps q.p
        · rw [hca] at HCa HPo
          have HF : Hid (blocksI ps none bs = false) := hidP (by rw [HPo.out]; rfl)
          clear HPo HPr HNx
          go_wp2_with fail
          obtain ⟨x0, x1, x2, x3, x4⟩ := boxBk (q := q) wr 67
          have xB := alloc_below wr (.cells #[.bool q.p.s, .int .i64 q.p.H.toInt, .int .i64 q.p.L.toInt, .int .i64 q.p.b, .string q.t] 67)
          have xL := alloc_lt wr (.cells #[.bool q.p.s, .int .i64 q.p.H.toInt, .int .i64 q.p.L.toInt, .int .i64 q.p.b, .string q.t] 67)
          have xS : (wr.alloc (.cells #[.bool q.p.s, .int .i64 q.p.H.toInt, .int .i64 q.p.L.toInt, .int .i64 q.p.b, .string q.t] 67)).heap.size = wr.heap.size + 1 := by simp
          generalize wr.alloc (.cells #[.bool q.p.s, .int .i64 q.p.H.toInt, .int .i64 q.p.L.toInt, .int .i64 q.p.b, .string q.t] 67) = W2 at *
          have HXB := hidP xB
          clear xS
          have r0 := (xB.cell huw).trans v0
          have r1 := (xB.cell huw).trans v1
          have rL : w.heap.size < W2.heap.size := Nat.lt_of_lt_of_le huw xB.size
          clear xB
          have HSx : Hid (∀ x, Below W2.heap.size W2 x → (x.cell? ⟨wr.heap.size, 0, none⟩ = some (.bool q.p.s) ∧ x.cell? ⟨wr.heap.size, 1, none⟩ = some (.int .i64 q.p.H.toInt) ∧ x.cell? ⟨wr.heap.size, 2, none⟩ = some (.int .i64 q.p.L.toInt) ∧ x.cell? ⟨wr.heap.size, 3, none⟩ = some (.int .i64 q.p.b) ∧ x.cell? ⟨wr.heap.size, 4, none⟩ = some (.string q.t) ∧ x.cell? ⟨w.heap.size, 0, none⟩ = some (.slice ap np cp) ∧ x.cell? ⟨w.heap.size, 1, none⟩ = some (.slice (some ⟨p, o, none⟩) nb cb) ∧ Below W2.heap.size W2 x)) := hidP fun x h =>
            ⟨(h.cell xL).trans x0, (h.cell xL).trans x1, (h.cell xL).trans x2, (h.cell xL).trans x3, (h.cell xL).trans x4, (h.cell rL).trans r0, (h.cell rL).trans r1, h⟩
          refine wp_region_held_drew (S := (fun x => x.cell? ⟨wr.heap.size, 0, none⟩ = some (.bool q.p.s) ∧ x.cell? ⟨wr.heap.size, 1, none⟩ = some (.int .i64 q.p.H.toInt) ∧ x.cell? ⟨wr.heap.size, 2, none⟩ = some (.int .i64 q.p.L.toInt) ∧ x.cell? ⟨wr.heap.size, 3, none⟩ = some (.int .i64 q.p.b) ∧ x.cell? ⟨wr.heap.size, 4, none⟩ = some (.string q.t) ∧ x.cell? ⟨w.heap.size, 0, none⟩ = some (.slice ap np cp) ∧ x.cell? ⟨w.heap.size, 1, none⟩ = some (.slice (some ⟨p, o, none⟩) nb cb) ∧ Below W2.heap.size W2 x)) (by kernel_rfl) ?_ (fun hHeld => ?_)
          · try dsimp only
            exact HSx.out _ ((Below.refl _ _).drew)
          refine tkA 0 13 (v := ?_) rfl (by kernel_rfl) (fun _ _ _ h => h) (by rfl) ?_ (by assumption) ?_; rotate_left; · (intro w hSw; (try dsimp only at hSw); go_simp; try with_reducible rfl)
          simp only [pa]
          refine tkA 1 14 (v := ?_) rfl (by kernel_rfl) (fun _ _ _ h => h) (by rfl) ?_ (by assumption) ?_; rotate_left; · (intro w hSw; (try dsimp only at hSw); go_simp; try with_reducible rfl)
          simp only [pa]
          refine wpAnyH_ready (rs := [2]) (by kernel_rfl) (by simp) ?_
          refine AllReadyH.cons rfl (fun K hK => ?_) AllReadyH.nil
          go_simp
          go_wp2_with (first | (go_at_call 73; refine (HOw.out _).mono ?_; rintro e w' ⟨rfl, rfl⟩))
          refine hK.out _ _ ?_ (fun hHeld => ?_)
          · try dsimp only
            exact HSx.out _ (hHeld.2.2.2.2.2.2.2)
          clear hK K
          refine tkA 3 16 (v := ?_) rfl (by kernel_rfl) (fun _ _ _ h => h) (by rfl) ?_ (by assumption) ?_; rotate_left; · (intro w hSw; (try dsimp only at hSw); go_simp; try with_reducible rfl)
          simp only [pa]
          refine tkA 4 17 (v := ?_) rfl (by kernel_rfl) (fun _ _ _ h => h) (by rfl) ?_ (by assumption) ?_; rotate_left; · (intro w hSw; (try dsimp only at hSw); go_simp; try with_reducible rfl)
          simp only [pa]
          refine tkA 5 18 (v := ?_) rfl (by kernel_rfl) (fun _ _ _ h => h) (by rfl) ?_ (by assumption) ?_; rotate_left; · (intro w hSw; (try dsimp only at hSw); go_simp; try with_reducible rfl)
          simp only [pa]
          refine tkA 6 19 (v := ?_) rfl (by kernel_rfl) (fun _ _ _ h => h) (by rfl) ?_ (by assumption) ?_; rotate_left; · (intro w hSw; (try dsimp only at hSw); go_simp; try with_reducible rfl)
          simp only [pa]
          refine tkA 7 20 (v := ?_) rfl (by kernel_rfl) (fun _ _ _ h => h) (by rfl) ?_ (by assumption) ?_; rotate_left; · (intro w hSw; (try dsimp only at hSw); go_simp; try with_reducible rfl)
          simp only [pa]
          refine tkA 8 21 (v := ?_) rfl (by kernel_rfl) (fun _ _ _ h => h) (by rfl) ?_ (by assumption) ?_; rotate_left; · (intro w hSw; (try dsimp only at hSw); go_simp; try with_reducible rfl)
          simp only [pa]
          refine wpAnyH_ready (rs := [9]) (by kernel_rfl) (by simp) ?_
          refine AllReadyH.cons rfl (fun K hK => ?_) AllReadyH.nil
          go_simp
          go_wp2_with (first | (go_at_call 74; refine (HCa.out _ (below_box HBel.out HBel.out.size HXB.out (hHeld.2.2.2.2.2.2.2))).mono ?_; rintro e w2 ⟨rfl, hb2⟩; have b2 := (hHeld.2.2.2.2.2.2.2).trans (hb2.mono (hHeld.2.2.2.2.2.2.2).size)))
          refine hK.out _ _ ?_ (fun hHeld => ?_)
          · try dsimp only
            exact HSx.out _ b2
          clear hK K
          refine tkA 10 23 (v := ?_) rfl (by kernel_rfl) (fun _ _ _ h => h) (by rfl) ?_ (by assumption) ?_; rotate_left; · (intro w hSw; (try dsimp only at hSw); go_simp; try with_reducible rfl)
          simp only [pa]
          refine tkA 11 24 (v := ?_) rfl (by kernel_rfl) (fun _ _ _ h => h) (by rfl) ?_ (by assumption) ?_; rotate_left; · (intro w hSw; (try dsimp only at hSw); go_simp; try with_reducible rfl)
          simp only [pa]
          refine tkA 12 25 (v := ?_) rfl (by kernel_rfl) (fun _ _ _ h => h) (by rfl) ?_ (by assumption) ?_; rotate_left; · (intro w hSw; (try dsimp only at hSw); go_simp; try with_reducible rfl)
          simp only [pa]
          refine wpAnyH_take (i := 13) (oi := ⟨some 26, _, _, _, _, _⟩) (v := undef) rfl (by kernel_rfl) (by kernel_rfl) (by kernel_rfl) (fun _ _ _ h => h) (Or.inr ⟨by rfl, rfl⟩) (by assumption) ?_
          simp only [pa]
          refine wpAnyH_take (i := 14) (oi := ⟨some 27, _, _, _, _, _⟩) (v := undef) rfl (by kernel_rfl) (by kernel_rfl) (by kernel_rfl) (fun _ _ _ h => h) (Or.inr ⟨by rfl, rfl⟩) (by assumption) ?_
          simp only [pa]
          refine wpAnyH_take (i := 15) (oi := ⟨some 28, _, _, _, _, _⟩) (v := undef) rfl (by kernel_rfl) (by kernel_rfl) (by kernel_rfl) (fun _ _ _ h => h) (Or.inr ⟨by rfl, rfl⟩) (by assumption) ?_
          simp only [pa]
          refine wpAnyH_take (i := 16) (oi := ⟨some 29, _, _, _, _, _⟩) (v := undef) rfl (by kernel_rfl) (by kernel_rfl) (by kernel_rfl) (fun _ _ _ h => h) (Or.inr ⟨by rfl, rfl⟩) (by assumption) ?_
          simp only [pa]
          refine wpAnyH_take (i := 17) (oi := ⟨some 30, _, _, _, _, _⟩) (v := undef) rfl (by kernel_rfl) (by kernel_rfl) (by kernel_rfl) (fun _ _ _ h => h) (Or.inr ⟨by rfl, rfl⟩) (by assumption) ?_
          simp only [pa]
          refine wpAnyH_take (i := 18) (oi := ⟨some 31, _, _, _, _, _⟩) (v := undef) rfl (by kernel_rfl) (by kernel_rfl) (by kernel_rfl) (fun _ _ _ h => h) (Or.inr ⟨by rfl, rfl⟩) (by assumption) ?_
          simp only [pa]
          refine wpAnyH_take (i := 19) (oi := ⟨some 32, _, _, _, _, _⟩) (v := undef) rfl (by kernel_rfl) (by kernel_rfl) (by kernel_rfl) (fun _ _ _ h => h) (Or.inr ⟨by rfl, rfl⟩) (by assumption) ?_
          simp only [pa]
          refine wpAnyH_take (i := 20) (oi := ⟨some 33, _, _, _, _, _⟩) (v := undef) rfl (by kernel_rfl) (by kernel_rfl) (by kernel_rfl) (fun _ _ _ h => h) (Or.inr ⟨by rfl, rfl⟩) (by assumption) ?_
          simp only [pa]
          refine wpAnyH_take (i := 21) (oi := ⟨some 34, _, _, _, _, _⟩) (v := undef) rfl (by kernel_rfl) (by kernel_rfl) (by kernel_rfl) (fun _ _ _ h => h) (Or.inr ⟨by rfl, rfl⟩) (by assumption) ?_
          simp only [pa]
          refine wpAnyH_take (i := 22) (oi := ⟨some 35, _, _, _, _, _⟩) (v := undef) rfl (by kernel_rfl) (by kernel_rfl) (by kernel_rfl) (fun _ _ _ h => h) (Or.inr ⟨by rfl, rfl⟩) (by assumption) ?_
          simp only [pa]
          refine wpAnyH_take (i := 23) (oi := ⟨some 36, _, _, _, _, _⟩) (v := undef) rfl (by kernel_rfl) (by kernel_rfl) (by kernel_rfl) (fun _ _ _ h => h) (Or.inr ⟨by rfl, rfl⟩) (by assumption) ?_
          simp only [pa]
          refine wpAnyH_take (i := 24) (oi := ⟨some 37, _, _, _, _, _⟩) (v := undef) rfl (by kernel_rfl) (by kernel_rfl) (by kernel_rfl) (fun _ _ _ h => h) (Or.inr ⟨by rfl, rfl⟩) (by assumption) ?_
          simp only [pa]
          refine wpAnyH_take (i := 25) (oi := ⟨some 38, _, _, _, _, _⟩) (v := undef) rfl (by kernel_rfl) (by kernel_rfl) (by kernel_rfl) (fun _ _ _ h => h) (Or.inr ⟨by rfl, rfl⟩) (by assumption) ?_
          simp only [pa]
          refine wpAnyH_take (i := 26) (oi := ⟨some 39, _, _, _, _, _⟩) (v := undef) rfl (by kernel_rfl) (by kernel_rfl) (by kernel_rfl) (fun _ _ _ h => h) (Or.inr ⟨by rfl, rfl⟩) (by assumption) ?_
          simp only [pa]
          refine wpAnyH_take (i := 27) (oi := ⟨some 40, _, _, _, _, _⟩) (v := undef) rfl (by kernel_rfl) (by kernel_rfl) (by kernel_rfl) (fun _ _ _ h => h) (Or.inr ⟨by rfl, rfl⟩) (by assumption) ?_
          simp only [pa]
          refine tkA 28 41 (v := ?_) rfl (by kernel_rfl) (fun _ _ _ h => h) (by rfl) ?_ (by assumption) ?_; rotate_left; · (intro w hSw; (try dsimp only at hSw); go_simp; try with_reducible rfl)
          simp only [pa]
          have HE := hidP (hHeld.2.2.2.2.2.2.2)
          refine wpAnyH_done (by kernel_rfl) ?_ _
          clear hHeld
          go_wp2_with fail
          go_ret
          exact ⟨ret_b HF.out.symm, HUB.out.trans ((below_box HBel.out HBel.out.size HXB.out HE.out).mono HUB.out.size)⟩
        · rw [hca] at HCa HPo
          have HOk := hidP hca
          have HPk := hidP (carB_pk hca)
          by_cases hk0 : k = 0
          · have g0 : decide ((0 : Int) < (k : Int)) = false := decide_eq_false (by omega)
            have g1 : decide (0 < k) = false := decide_eq_false (by omega)
            have HF : Hid (blocksI ps none bs = blocksI ps (some q.p) (bs.drop (k + 1))) := hidP (by rw [HPo.out, hk0]; rfl)
            clear HPo HPr hk0
            go_wp2_with fail
            obtain ⟨x0, x1, x2, x3, x4⟩ := boxBk (q := q) wr 67
            have xB := alloc_below wr (.cells #[.bool q.p.s, .int .i64 q.p.H.toInt, .int .i64 q.p.L.toInt, .int .i64 q.p.b, .string q.t] 67)
            have xL := alloc_lt wr (.cells #[.bool q.p.s, .int .i64 q.p.H.toInt, .int .i64 q.p.L.toInt, .int .i64 q.p.b, .string q.t] 67)
            have xS : (wr.alloc (.cells #[.bool q.p.s, .int .i64 q.p.H.toInt, .int .i64 q.p.L.toInt, .int .i64 q.p.b, .string q.t] 67)).heap.size = wr.heap.size + 1 := by simp
            generalize wr.alloc (.cells #[.bool q.p.s, .int .i64 q.p.H.toInt, .int .i64 q.p.L.toInt, .int .i64 q.p.b, .string q.t] 67) = W2 at *
            have HXB := hidP xB
            clear xS
            have r0 := (xB.cell huw).trans v0
            have r1 := (xB.cell huw).trans v1
            have rL : w.heap.size < W2.heap.size := Nat.lt_of_lt_of_le huw xB.size
            clear xB
            have HSx : Hid (∀ x, Below W2.heap.size W2 x → (x.cell? ⟨wr.heap.size, 0, none⟩ = some (.bool q.p.s) ∧ x.cell? ⟨wr.heap.size, 1, none⟩ = some (.int .i64 q.p.H.toInt) ∧ x.cell? ⟨wr.heap.size, 2, none⟩ = some (.int .i64 q.p.L.toInt) ∧ x.cell? ⟨wr.heap.size, 3, none⟩ = some (.int .i64 q.p.b) ∧ x.cell? ⟨wr.heap.size, 4, none⟩ = some (.string q.t) ∧ x.cell? ⟨w.heap.size, 0, none⟩ = some (.slice ap np cp) ∧ x.cell? ⟨w.heap.size, 1, none⟩ = some (.slice (some ⟨p, o, none⟩) nb cb) ∧ Below W2.heap.size W2 x)) := hidP fun x h =>
              ⟨(h.cell xL).trans x0, (h.cell xL).trans x1, (h.cell xL).trans x2, (h.cell xL).trans x3, (h.cell xL).trans x4, (h.cell rL).trans r0, (h.cell rL).trans r1, h⟩
            refine wp_region_held_drew (S := (fun x => x.cell? ⟨wr.heap.size, 0, none⟩ = some (.bool q.p.s) ∧ x.cell? ⟨wr.heap.size, 1, none⟩ = some (.int .i64 q.p.H.toInt) ∧ x.cell? ⟨wr.heap.size, 2, none⟩ = some (.int .i64 q.p.L.toInt) ∧ x.cell? ⟨wr.heap.size, 3, none⟩ = some (.int .i64 q.p.b) ∧ x.cell? ⟨wr.heap.size, 4, none⟩ = some (.string q.t) ∧ x.cell? ⟨w.heap.size, 0, none⟩ = some (.slice ap np cp) ∧ x.cell? ⟨w.heap.size, 1, none⟩ = some (.slice (some ⟨p, o, none⟩) nb cb) ∧ Below W2.heap.size W2 x)) (by kernel_rfl) ?_ (fun hHeld => ?_)
            · try dsimp only
              exact HSx.out _ ((Below.refl _ _).drew)
            refine tkA 0 13 (v := ?_) rfl (by kernel_rfl) (fun _ _ _ h => h) (by rfl) ?_ (by assumption) ?_; rotate_left; · (intro w hSw; (try dsimp only at hSw); go_simp; try with_reducible rfl)
            simp only [pa]
            refine tkA 1 14 (v := ?_) rfl (by kernel_rfl) (fun _ _ _ h => h) (by rfl) ?_ (by assumption) ?_; rotate_left; · (intro w hSw; (try dsimp only at hSw); go_simp; try with_reducible rfl)
            simp only [pa]
            refine wpAnyH_ready (rs := [2]) (by kernel_rfl) (by simp) ?_
            refine AllReadyH.cons rfl (fun K hK => ?_) AllReadyH.nil
            go_simp
            go_wp2_with (first | (go_at_call 73; refine (HOw.out _).mono ?_; rintro e w' ⟨rfl, rfl⟩))
            refine hK.out _ _ ?_ (fun hHeld => ?_)
            · try dsimp only
              exact HSx.out _ (hHeld.2.2.2.2.2.2.2)
            clear hK K
            refine tkA 3 16 (v := ?_) rfl (by kernel_rfl) (fun _ _ _ h => h) (by rfl) ?_ (by assumption) ?_; rotate_left; · (intro w hSw; (try dsimp only at hSw); go_simp; try with_reducible rfl)
            simp only [pa]
            refine tkA 4 17 (v := ?_) rfl (by kernel_rfl) (fun _ _ _ h => h) (by rfl) ?_ (by assumption) ?_; rotate_left; · (intro w hSw; (try dsimp only at hSw); go_simp; try with_reducible rfl)
            simp only [pa]
            refine tkA 5 18 (v := ?_) rfl (by kernel_rfl) (fun _ _ _ h => h) (by rfl) ?_ (by assumption) ?_; rotate_left; · (intro w hSw; (try dsimp only at hSw); go_simp; try with_reducible rfl)
            simp only [pa]
            refine tkA 6 19 (v := ?_) rfl (by kernel_rfl) (fun _ _ _ h => h) (by rfl) ?_ (by assumption) ?_; rotate_left; · (intro w hSw; (try dsimp only at hSw); go_simp; try with_reducible rfl)
            simp only [pa]
            refine tkA 7 20 (v := ?_) rfl (by kernel_rfl) (fun _ _ _ h => h) (by rfl) ?_ (by assumption) ?_; rotate_left; · (intro w hSw; (try dsimp only at hSw); go_simp; try with_reducible rfl)
            simp only [pa]
            refine tkA 8 21 (v := ?_) rfl (by kernel_rfl) (fun _ _ _ h => h) (by rfl) ?_ (by assumption) ?_; rotate_left; · (intro w hSw; (try dsimp only at hSw); go_simp; try with_reducible rfl)
            simp only [pa]
            refine wpAnyH_ready (rs := [9]) (by kernel_rfl) (by simp) ?_
            refine AllReadyH.cons rfl (fun K hK => ?_) AllReadyH.nil
            go_simp
            go_wp2_with (first | (go_at_call 74; refine (HCa.out _ (below_box HBel.out HBel.out.size HXB.out (hHeld.2.2.2.2.2.2.2))).mono ?_; rintro e w2 ⟨rfl, hb2⟩; have b2 := (hHeld.2.2.2.2.2.2.2).trans (hb2.mono (hHeld.2.2.2.2.2.2.2).size)))
            refine hK.out _ _ ?_ (fun hHeld => ?_)
            · try dsimp only
              exact HSx.out _ b2
            clear hK K
            refine tkA 10 23 (v := ?_) rfl (by kernel_rfl) (fun _ _ _ h => h) (by rfl) ?_ (by assumption) ?_; rotate_left; · (intro w hSw; (try dsimp only at hSw); go_simp; try with_reducible rfl)
            simp only [pa]
            refine tkA 11 24 (v := ?_) rfl (by kernel_rfl) (fun _ _ _ h => h) (by rfl) ?_ (by assumption) ?_; rotate_left; · (intro w hSw; (try dsimp only at hSw); go_simp; try with_reducible rfl)
            simp only [pa]
            refine tkA 12 25 (v := ?_) rfl (by kernel_rfl) (fun _ _ _ h => h) (by rfl) ?_ (by assumption) ?_; rotate_left; · (intro w hSw; (try dsimp only at hSw); go_simp; try with_reducible rfl)
            simp only [pa]
            refine tkA 13 26 (v := ?_) rfl (by kernel_rfl) (fun _ _ _ h => h) (by rfl) ?_ (by assumption) ?_; rotate_left; · (intro w hSw; (try dsimp only at hSw); go_simp; try with_reducible rfl)
            simp only [pa]
            refine tkA 14 27 (v := ?_) rfl (by kernel_rfl) (fun _ _ _ h => h) (by rfl) ?_ (by assumption) ?_; rotate_left; · (intro w hSw; (try dsimp only at hSw); go_simp; try with_reducible rfl)
            simp only [pa]
            refine tkA 15 28 (v := ?_) rfl (by kernel_rfl) (fun _ _ _ h => h) (by rfl) ?_ (by assumption) ?_; rotate_left; · (intro w hSw; (try dsimp only at hSw); go_simp; try with_reducible rfl)
            simp only [pa]
            refine wpAnyH_take (i := 16) (oi := ⟨some 29, _, _, _, _, _⟩) (v := undef) rfl (by kernel_rfl) (by kernel_rfl) (by kernel_rfl) (fun _ _ _ h => h) (Or.inr ⟨by rfl, rfl⟩) (by assumption) ?_
            simp only [pa]
            refine wpAnyH_take (i := 17) (oi := ⟨some 30, _, _, _, _, _⟩) (v := undef) rfl (by kernel_rfl) (by kernel_rfl) (by kernel_rfl) (fun _ _ _ h => h) (Or.inr ⟨by rfl, rfl⟩) (by assumption) ?_
            simp only [pa]
            refine wpAnyH_take (i := 18) (oi := ⟨some 31, _, _, _, _, _⟩) (v := undef) rfl (by kernel_rfl) (by kernel_rfl) (by kernel_rfl) (fun _ _ _ h => h) (Or.inr ⟨by rfl, rfl⟩) (by assumption) ?_
            simp only [pa]
            refine wpAnyH_take (i := 19) (oi := ⟨some 32, _, _, _, _, _⟩) (v := undef) rfl (by kernel_rfl) (by kernel_rfl) (by kernel_rfl) (fun _ _ _ h => h) (Or.inr ⟨by rfl, rfl⟩) (by assumption) ?_
            simp only [pa]
            refine wpAnyH_take (i := 20) (oi := ⟨some 33, _, _, _, _, _⟩) (v := undef) rfl (by kernel_rfl) (by kernel_rfl) (by kernel_rfl) (fun _ _ _ h => h) (Or.inr ⟨by rfl, rfl⟩) (by assumption) ?_
            simp only [pa]
            refine wpAnyH_take (i := 21) (oi := ⟨some 34, _, _, _, _, _⟩) (v := undef) rfl (by kernel_rfl) (by kernel_rfl) (by kernel_rfl) (fun _ _ _ h => h) (Or.inr ⟨by rfl, rfl⟩) (by assumption) ?_
            simp only [pa]
            refine wpAnyH_take (i := 22) (oi := ⟨some 35, _, _, _, _, _⟩) (v := undef) rfl (by kernel_rfl) (by kernel_rfl) (by kernel_rfl) (fun _ _ _ h => h) (Or.inr ⟨by rfl, rfl⟩) (by assumption) ?_
            simp only [pa]
            refine wpAnyH_take (i := 23) (oi := ⟨some 36, _, _, _, _, _⟩) (v := undef) rfl (by kernel_rfl) (by kernel_rfl) (by kernel_rfl) (fun _ _ _ h => h) (Or.inr ⟨by rfl, rfl⟩) (by assumption) ?_
            simp only [pa]
            refine wpAnyH_take (i := 24) (oi := ⟨some 37, _, _, _, _, _⟩) (v := undef) rfl (by kernel_rfl) (by kernel_rfl) (by kernel_rfl) (fun _ _ _ h => h) (Or.inr ⟨by rfl, rfl⟩) (by assumption) ?_
            simp only [pa]
            refine wpAnyH_take (i := 25) (oi := ⟨some 38, _, _, _, _, _⟩) (v := undef) rfl (by kernel_rfl) (by kernel_rfl) (by kernel_rfl) (fun _ _ _ h => h) (Or.inr ⟨by rfl, rfl⟩) (by assumption) ?_
            simp only [pa]
            refine wpAnyH_take (i := 26) (oi := ⟨some 39, _, _, _, _, _⟩) (v := undef) rfl (by kernel_rfl) (by kernel_rfl) (by kernel_rfl) (fun _ _ _ h => h) (Or.inr ⟨by rfl, rfl⟩) (by assumption) ?_
            simp only [pa]
            refine tkA 27 40 (v := ?_) rfl (by kernel_rfl) (fun _ _ _ h => h) (by rfl) ?_ (by assumption) ?_; rotate_left; · (intro w hSw; (try dsimp only at hSw); go_simp; try with_reducible rfl)
            simp only [pa]
            refine tkA 28 41 (v := ?_) rfl (by kernel_rfl) (fun _ _ _ h => h) (by rfl) ?_ (by assumption) ?_; rotate_left; · (intro w hSw; (try dsimp only at hSw); go_simp; try with_reducible rfl)
            simp only [pa]
            have HE := hidP (hHeld.2.2.2.2.2.2.2)
            refine wpAnyH_done (by kernel_rfl) ?_ _
            clear hHeld
            go_wp2_with fail
            go_roundw
            case rel => exact ⟨k + 1, by omega, by go_num, by rw [HF.out, HNx.out], (fun r h => by rw [HNx.out] at h; cases h; exact HOk.out), below_box HBel.out HBel.out.size HXB.out HE.out⟩
            case measure => simp [intOf]; omega
          · have g0 : decide ((0 : Int) < (k : Int)) = true := decide_eq_true (by omega)
            have g1 : decide (0 < k) = true := decide_eq_true (by omega)
            obtain ⟨J, hJ⟩ : ∃ J, J = k - 1 := ⟨_, rfl⟩
            have hkJ : k = J + 1 := by omega
            have hJi : (k : Int) - 1 = (J : Int) := by omega
            have hJn : J < nb := by omega
            have wJ : IntKind.i64.wrap (J : Int) = (J : Int) := by rw [IntKind.wrap_i64]; omega
            have hJ0 : (0 : Int) ≤ (J : Int) := by omega
            have hJ1 : (J : Int) < (nb : Int) := by omega
            obtain ⟨p', o', r, he, hp', hr, c0, c1, c2, c3, c4⟩ := rowBk HB1.out J (by rw [← HN.out]; exact hJn)
            simp only [Option.some.injEq, Addr.mk.injEq, and_true] at he
            obtain ⟨rfl, rfl⟩ := he
            have hprv : prvB bs k = some r.p := by rw [hkJ]; exact prvB_next hr
            have hrca : carB ps r.p = true := HPr.out _ hprv
            have HPo2 : Hid (blocksI ps none bs = (((true && true) && folB r.p q.p) && blocksI ps (some q.p) (bs.drop (k + 1)))) := hidP (by rw [HPo.out, hprv])
            have HFo := hidP (follows_any r.p q.p (carB_pk hrca) HPk.out)
            have e0 := (HBel.out.cell hp').trans c0
            have e1 := (HBel.out.cell hp').trans c1
            have e2 := (HBel.out.cell hp').trans c2
            have e3 := (HBel.out.cell hp').trans c3
            clear c0 c1 c2 c3 c4 hr hprv hrca hJ hkJ hk0 HPo HPr
            cases hfo : folB r.p q.p
            · rw [hfo] at HPo2 HFo
              have HF : Hid (blocksI ps none bs = false) := hidP (by rw [HPo2.out]; rfl)
              clear HPo2
              go_wp2_with fail
              obtain ⟨x0, x1, x2, x3, x4⟩ := boxBk (q := q) wr 67
              have xB := alloc_below wr (.cells #[.bool q.p.s, .int .i64 q.p.H.toInt, .int .i64 q.p.L.toInt, .int .i64 q.p.b, .string q.t] 67)
              have xL := alloc_lt wr (.cells #[.bool q.p.s, .int .i64 q.p.H.toInt, .int .i64 q.p.L.toInt, .int .i64 q.p.b, .string q.t] 67)
              have xS : (wr.alloc (.cells #[.bool q.p.s, .int .i64 q.p.H.toInt, .int .i64 q.p.L.toInt, .int .i64 q.p.b, .string q.t] 67)).heap.size = wr.heap.size + 1 := by simp
              generalize wr.alloc (.cells #[.bool q.p.s, .int .i64 q.p.H.toInt, .int .i64 q.p.L.toInt, .int .i64 q.p.b, .string q.t] 67) = W2 at *
              have HXB := hidP xB
              clear xS
              have r0 := (xB.cell huw).trans v0
              have r1 := (xB.cell huw).trans v1
              have rL : w.heap.size < W2.heap.size := Nat.lt_of_lt_of_le huw xB.size
              have y0 := (xB.cell hpw).trans e0
              have y1 := (xB.cell hpw).trans e1
              have y2 := (xB.cell hpw).trans e2
              have y3 := (xB.cell hpw).trans e3
              have yL : p < W2.heap.size := Nat.lt_of_lt_of_le hpw xB.size
              clear xB
              have HSx : Hid (∀ x, Below W2.heap.size W2 x → (x.cell? ⟨wr.heap.size, 0, none⟩ = some (.bool q.p.s) ∧ x.cell? ⟨wr.heap.size, 1, none⟩ = some (.int .i64 q.p.H.toInt) ∧ x.cell? ⟨wr.heap.size, 2, none⟩ = some (.int .i64 q.p.L.toInt) ∧ x.cell? ⟨wr.heap.size, 3, none⟩ = some (.int .i64 q.p.b) ∧ x.cell? ⟨wr.heap.size, 4, none⟩ = some (.string q.t) ∧ x.cell? ⟨w.heap.size, 0, none⟩ = some (.slice ap np cp) ∧ x.cell? ⟨w.heap.size, 1, none⟩ = some (.slice (some ⟨p, o, none⟩) nb cb) ∧ x.cell? ⟨p, o + J * 5, none⟩ = some (.bool r.p.s) ∧ x.cell? ⟨p, o + J * 5 + 1, none⟩ = some (.int .i64 r.p.H.toInt) ∧ x.cell? ⟨p, o + J * 5 + 2, none⟩ = some (.int .i64 r.p.L.toInt) ∧ x.cell? ⟨p, o + J * 5 + 3, none⟩ = some (.int .i64 r.p.b) ∧ Below W2.heap.size W2 x)) := hidP fun x h =>
                ⟨(h.cell xL).trans x0, (h.cell xL).trans x1, (h.cell xL).trans x2, (h.cell xL).trans x3, (h.cell xL).trans x4, (h.cell rL).trans r0, (h.cell rL).trans r1, (h.cell yL).trans y0, (h.cell yL).trans y1, (h.cell yL).trans y2, (h.cell yL).trans y3, h⟩
              refine wp_region_held_drew (S := (fun x => x.cell? ⟨wr.heap.size, 0, none⟩ = some (.bool q.p.s) ∧ x.cell? ⟨wr.heap.size, 1, none⟩ = some (.int .i64 q.p.H.toInt) ∧ x.cell? ⟨wr.heap.size, 2, none⟩ = some (.int .i64 q.p.L.toInt) ∧ x.cell? ⟨wr.heap.size, 3, none⟩ = some (.int .i64 q.p.b) ∧ x.cell? ⟨wr.heap.size, 4, none⟩ = some (.string q.t) ∧ x.cell? ⟨w.heap.size, 0, none⟩ = some (.slice ap np cp) ∧ x.cell? ⟨w.heap.size, 1, none⟩ = some (.slice (some ⟨p, o, none⟩) nb cb) ∧ x.cell? ⟨p, o + J * 5, none⟩ = some (.bool r.p.s) ∧ x.cell? ⟨p, o + J * 5 + 1, none⟩ = some (.int .i64 r.p.H.toInt) ∧ x.cell? ⟨p, o + J * 5 + 2, none⟩ = some (.int .i64 r.p.L.toInt) ∧ x.cell? ⟨p, o + J * 5 + 3, none⟩ = some (.int .i64 r.p.b) ∧ Below W2.heap.size W2 x)) (by kernel_rfl) ?_ (fun hHeld => ?_)
              · try dsimp only
                exact HSx.out _ ((Below.refl _ _).drew)
              refine tkA 0 13 (v := ?_) rfl (by kernel_rfl) (fun _ _ _ h => h) (by rfl) ?_ (by assumption) ?_; rotate_left; · (intro w hSw; (try dsimp only at hSw); go_simp; try with_reducible rfl)
              simp only [pa]
              refine tkA 1 14 (v := ?_) rfl (by kernel_rfl) (fun _ _ _ h => h) (by rfl) ?_ (by assumption) ?_; rotate_left; · (intro w hSw; (try dsimp only at hSw); go_simp; try with_reducible rfl)
              simp only [pa]
              refine wpAnyH_ready (rs := [2]) (by kernel_rfl) (by simp) ?_
              refine AllReadyH.cons rfl (fun K hK => ?_) AllReadyH.nil
              go_simp
              go_wp2_with (first | (go_at_call 73; refine (HOw.out _).mono ?_; rintro e w' ⟨rfl, rfl⟩))
              refine hK.out _ _ ?_ (fun hHeld => ?_)
              · try dsimp only
                exact HSx.out _ (hHeld.2.2.2.2.2.2.2.2.2.2.2)
              clear hK K
              refine tkA 3 16 (v := ?_) rfl (by kernel_rfl) (fun _ _ _ h => h) (by rfl) ?_ (by assumption) ?_; rotate_left; · (intro w hSw; (try dsimp only at hSw); go_simp; try with_reducible rfl)
              simp only [pa]
              refine tkA 4 17 (v := ?_) rfl (by kernel_rfl) (fun _ _ _ h => h) (by rfl) ?_ (by assumption) ?_; rotate_left; · (intro w hSw; (try dsimp only at hSw); go_simp; try with_reducible rfl)
              simp only [pa]
              refine tkA 5 18 (v := ?_) rfl (by kernel_rfl) (fun _ _ _ h => h) (by rfl) ?_ (by assumption) ?_; rotate_left; · (intro w hSw; (try dsimp only at hSw); go_simp; try with_reducible rfl)
              simp only [pa]
              refine tkA 6 19 (v := ?_) rfl (by kernel_rfl) (fun _ _ _ h => h) (by rfl) ?_ (by assumption) ?_; rotate_left; · (intro w hSw; (try dsimp only at hSw); go_simp; try with_reducible rfl)
              simp only [pa]
              refine tkA 7 20 (v := ?_) rfl (by kernel_rfl) (fun _ _ _ h => h) (by rfl) ?_ (by assumption) ?_; rotate_left; · (intro w hSw; (try dsimp only at hSw); go_simp; try with_reducible rfl)
              simp only [pa]
              refine tkA 8 21 (v := ?_) rfl (by kernel_rfl) (fun _ _ _ h => h) (by rfl) ?_ (by assumption) ?_; rotate_left; · (intro w hSw; (try dsimp only at hSw); go_simp; try with_reducible rfl)
              simp only [pa]
              refine wpAnyH_ready (rs := [9]) (by kernel_rfl) (by simp) ?_
              refine AllReadyH.cons rfl (fun K hK => ?_) AllReadyH.nil
              go_simp
              go_wp2_with (first | (go_at_call 74; refine (HCa.out _ (below_box HBel.out HBel.out.size HXB.out (hHeld.2.2.2.2.2.2.2.2.2.2.2))).mono ?_; rintro e w2 ⟨rfl, hb2⟩; have b2 := (hHeld.2.2.2.2.2.2.2.2.2.2.2).trans (hb2.mono (hHeld.2.2.2.2.2.2.2.2.2.2.2).size)))
              refine hK.out _ _ ?_ (fun hHeld => ?_)
              · try dsimp only
                exact HSx.out _ b2
              clear hK K
              refine tkA 10 23 (v := ?_) rfl (by kernel_rfl) (fun _ _ _ h => h) (by rfl) ?_ (by assumption) ?_; rotate_left; · (intro w hSw; (try dsimp only at hSw); go_simp; try with_reducible rfl)
              simp only [pa]
              refine tkA 11 24 (v := ?_) rfl (by kernel_rfl) (fun _ _ _ h => h) (by rfl) ?_ (by assumption) ?_; rotate_left; · (intro w hSw; (try dsimp only at hSw); go_simp; try with_reducible rfl)
              simp only [pa]
              refine tkA 12 25 (v := ?_) rfl (by kernel_rfl) (fun _ _ _ h => h) (by rfl) ?_ (by assumption) ?_; rotate_left; · (intro w hSw; (try dsimp only at hSw); go_simp; try with_reducible rfl)
              simp only [pa]
              refine tkA 13 26 (v := ?_) rfl (by kernel_rfl) (fun _ _ _ h => h) (by rfl) ?_ (by assumption) ?_; rotate_left; · (intro w hSw; (try dsimp only at hSw); go_simp; try with_reducible rfl)
              simp only [pa]
              refine tkA 14 27 (v := ?_) rfl (by kernel_rfl) (fun _ _ _ h => h) (by rfl) ?_ (by assumption) ?_; rotate_left; · (intro w hSw; (try dsimp only at hSw); go_simp; try with_reducible rfl)
              simp only [pa]
              refine tkA 15 28 (v := ?_) rfl (by kernel_rfl) (fun _ _ _ h => h) (by rfl) ?_ (by assumption) ?_; rotate_left; · (intro w hSw; (try dsimp only at hSw); go_simp; try with_reducible rfl)
              simp only [pa]
              refine tkA 16 29 (v := ?_) rfl (by kernel_rfl) (fun _ _ _ h => h) (by rfl) ?_ (by assumption) ?_; rotate_left; · (intro w hSw; (try dsimp only at hSw); go_simp; try with_reducible rfl)
              simp only [pa]
              refine tkA 17 30 (v := ?_) rfl (by kernel_rfl) (fun _ _ _ h => h) (by rfl) ?_ (by assumption) ?_; rotate_left; · (intro w hSw; (try dsimp only at hSw); go_simp; try with_reducible rfl)
              simp only [pa]
              refine tkA 18 31 (v := ?_) rfl (by kernel_rfl) (fun _ _ _ h => h) (by rfl) ?_ (by assumption) ?_; rotate_left; · (intro w hSw; (try dsimp only at hSw); go_simp; try with_reducible rfl)
              simp only [pa]
              refine tkA 19 32 (v := ?_) rfl (by kernel_rfl) (fun _ _ _ h => h) (by rfl) ?_ (by assumption) ?_; rotate_left; · (intro w hSw; (try dsimp only at hSw); go_simp; try with_reducible rfl)
              simp only [pa]
              refine tkA 20 33 (v := ?_) rfl (by kernel_rfl) (fun _ _ _ h => h) (by rfl) ?_ (by assumption) ?_; rotate_left; · (intro w hSw; (try dsimp only at hSw); go_simp; try with_reducible rfl)
              simp only [pa]
              refine tkA 21 34 (v := ?_) rfl (by kernel_rfl) (fun _ _ _ h => h) (by rfl) ?_ (by assumption) ?_; rotate_left; · (intro w hSw; (try dsimp only at hSw); go_simp; try with_reducible rfl)
              simp only [pa]
              refine tkA 22 35 (v := ?_) rfl (by kernel_rfl) (fun _ _ _ h => h) (by rfl) ?_ (by assumption) ?_; rotate_left; · (intro w hSw; (try dsimp only at hSw); go_simp; try with_reducible rfl)
              simp only [pa]
              refine tkA 23 36 (v := ?_) rfl (by kernel_rfl) (fun _ _ _ h => h) (by rfl) ?_ (by assumption) ?_; rotate_left; · (intro w hSw; (try dsimp only at hSw); go_simp; try with_reducible rfl)
              simp only [pa]
              refine tkA 24 37 (v := ?_) rfl (by kernel_rfl) (fun _ _ _ h => h) (by rfl) ?_ (by assumption) ?_; rotate_left; · (intro w hSw; (try dsimp only at hSw); go_simp; try with_reducible rfl)
              simp only [pa]
              refine wpAnyH_ready (rs := [25]) (by kernel_rfl) (by simp) ?_
              refine AllReadyH.cons rfl (fun K hK => ?_) AllReadyH.nil
              go_simp
              go_wp2_with (first | (go_at_call 72; refine (HFo.out _).mono ?_; rintro e w3 ⟨rfl, hb3⟩; have b3 := (hHeld.2.2.2.2.2.2.2.2.2.2.2).trans (hb3.mono (hHeld.2.2.2.2.2.2.2.2.2.2.2).size)))
              refine hK.out _ _ ?_ (fun hHeld => ?_)
              · try dsimp only
                exact HSx.out _ b3
              clear hK K
              refine tkA 26 39 (v := ?_) rfl (by kernel_rfl) (fun _ _ _ h => h) (by rfl) ?_ (by assumption) ?_; rotate_left; · (intro w hSw; (try dsimp only at hSw); go_simp; try with_reducible rfl)
              simp only [pa]
              refine tkA 27 40 (v := ?_) rfl (by kernel_rfl) (fun _ _ _ h => h) (by rfl) ?_ (by assumption) ?_; rotate_left; · (intro w hSw; (try dsimp only at hSw); go_simp; try with_reducible rfl)
              simp only [pa]
              refine tkA 28 41 (v := ?_) rfl (by kernel_rfl) (fun _ _ _ h => h) (by rfl) ?_ (by assumption) ?_; rotate_left; · (intro w hSw; (try dsimp only at hSw); go_simp; try with_reducible rfl)
              simp only [pa]
              have HE := hidP (hHeld.2.2.2.2.2.2.2.2.2.2.2)
              refine wpAnyH_done (by kernel_rfl) ?_ _
              clear hHeld
              go_wp2_with fail
              go_ret
              exact ⟨ret_b HF.out.symm, HUB.out.trans ((below_box HBel.out HBel.out.size HXB.out HE.out).mono HUB.out.size)⟩
            · rw [hfo] at HPo2 HFo
              have HF : Hid (blocksI ps none bs = blocksI ps (some q.p) (bs.drop (k + 1))) := hidP (by rw [HPo2.out]; rfl)
              clear HPo2
              go_wp2_with fail
              obtain ⟨x0, x1, x2, x3, x4⟩ := boxBk (q := q) wr 67
              have xB := alloc_below wr (.cells #[.bool q.p.s, .int .i64 q.p.H.toInt, .int .i64 q.p.L.toInt, .int .i64 q.p.b, .string q.t] 67)
              have xL := alloc_lt wr (.cells #[.bool q.p.s, .int .i64 q.p.H.toInt, .int .i64 q.p.L.toInt, .int .i64 q.p.b, .string q.t] 67)
              have xS : (wr.alloc (.cells #[.bool q.p.s, .int .i64 q.p.H.toInt, .int .i64 q.p.L.toInt, .int .i64 q.p.b, .string q.t] 67)).heap.size = wr.heap.size + 1 := by simp
              generalize wr.alloc (.cells #[.bool q.p.s, .int .i64 q.p.H.toInt, .int .i64 q.p.L.toInt, .int .i64 q.p.b, .string q.t] 67) = W2 at *
              have HXB := hidP xB
              clear xS
              have r0 := (xB.cell huw).trans v0
              have r1 := (xB.cell huw).trans v1
              have rL : w.heap.size < W2.heap.size := Nat.lt_of_lt_of_le huw xB.size
              have y0 := (xB.cell hpw).trans e0
              have y1 := (xB.cell hpw).trans e1
              have y2 := (xB.cell hpw).trans e2
              have y3 := (xB.cell hpw).trans e3
              have yL : p < W2.heap.size := Nat.lt_of_lt_of_le hpw xB.size
              clear xB
              have HSx : Hid (∀ x, Below W2.heap.size W2 x → (x.cell? ⟨wr.heap.size, 0, none⟩ = some (.bool q.p.s) ∧ x.cell? ⟨wr.heap.size, 1, none⟩ = some (.int .i64 q.p.H.toInt) ∧ x.cell? ⟨wr.heap.size, 2, none⟩ = some (.int .i64 q.p.L.toInt) ∧ x.cell? ⟨wr.heap.size, 3, none⟩ = some (.int .i64 q.p.b) ∧ x.cell? ⟨wr.heap.size, 4, none⟩ = some (.string q.t) ∧ x.cell? ⟨w.heap.size, 0, none⟩ = some (.slice ap np cp) ∧ x.cell? ⟨w.heap.size, 1, none⟩ = some (.slice (some ⟨p, o, none⟩) nb cb) ∧ x.cell? ⟨p, o + J * 5, none⟩ = some (.bool r.p.s) ∧ x.cell? ⟨p, o + J * 5 + 1, none⟩ = some (.int .i64 r.p.H.toInt) ∧ x.cell? ⟨p, o + J * 5 + 2, none⟩ = some (.int .i64 r.p.L.toInt) ∧ x.cell? ⟨p, o + J * 5 + 3, none⟩ = some (.int .i64 r.p.b) ∧ Below W2.heap.size W2 x)) := hidP fun x h =>
                ⟨(h.cell xL).trans x0, (h.cell xL).trans x1, (h.cell xL).trans x2, (h.cell xL).trans x3, (h.cell xL).trans x4, (h.cell rL).trans r0, (h.cell rL).trans r1, (h.cell yL).trans y0, (h.cell yL).trans y1, (h.cell yL).trans y2, (h.cell yL).trans y3, h⟩
              refine wp_region_held_drew (S := (fun x => x.cell? ⟨wr.heap.size, 0, none⟩ = some (.bool q.p.s) ∧ x.cell? ⟨wr.heap.size, 1, none⟩ = some (.int .i64 q.p.H.toInt) ∧ x.cell? ⟨wr.heap.size, 2, none⟩ = some (.int .i64 q.p.L.toInt) ∧ x.cell? ⟨wr.heap.size, 3, none⟩ = some (.int .i64 q.p.b) ∧ x.cell? ⟨wr.heap.size, 4, none⟩ = some (.string q.t) ∧ x.cell? ⟨w.heap.size, 0, none⟩ = some (.slice ap np cp) ∧ x.cell? ⟨w.heap.size, 1, none⟩ = some (.slice (some ⟨p, o, none⟩) nb cb) ∧ x.cell? ⟨p, o + J * 5, none⟩ = some (.bool r.p.s) ∧ x.cell? ⟨p, o + J * 5 + 1, none⟩ = some (.int .i64 r.p.H.toInt) ∧ x.cell? ⟨p, o + J * 5 + 2, none⟩ = some (.int .i64 r.p.L.toInt) ∧ x.cell? ⟨p, o + J * 5 + 3, none⟩ = some (.int .i64 r.p.b) ∧ Below W2.heap.size W2 x)) (by kernel_rfl) ?_ (fun hHeld => ?_)
              · try dsimp only
                exact HSx.out _ ((Below.refl _ _).drew)
              refine tkA 0 13 (v := ?_) rfl (by kernel_rfl) (fun _ _ _ h => h) (by rfl) ?_ (by assumption) ?_; rotate_left; · (intro w hSw; (try dsimp only at hSw); go_simp; try with_reducible rfl)
              simp only [pa]
              refine tkA 1 14 (v := ?_) rfl (by kernel_rfl) (fun _ _ _ h => h) (by rfl) ?_ (by assumption) ?_; rotate_left; · (intro w hSw; (try dsimp only at hSw); go_simp; try with_reducible rfl)
              simp only [pa]
              refine wpAnyH_ready (rs := [2]) (by kernel_rfl) (by simp) ?_
              refine AllReadyH.cons rfl (fun K hK => ?_) AllReadyH.nil
              go_simp
              go_wp2_with (first | (go_at_call 73; refine (HOw.out _).mono ?_; rintro e w' ⟨rfl, rfl⟩))
              refine hK.out _ _ ?_ (fun hHeld => ?_)
              · try dsimp only
                exact HSx.out _ (hHeld.2.2.2.2.2.2.2.2.2.2.2)
              clear hK K
              refine tkA 3 16 (v := ?_) rfl (by kernel_rfl) (fun _ _ _ h => h) (by rfl) ?_ (by assumption) ?_; rotate_left; · (intro w hSw; (try dsimp only at hSw); go_simp; try with_reducible rfl)
              simp only [pa]
              refine tkA 4 17 (v := ?_) rfl (by kernel_rfl) (fun _ _ _ h => h) (by rfl) ?_ (by assumption) ?_; rotate_left; · (intro w hSw; (try dsimp only at hSw); go_simp; try with_reducible rfl)
              simp only [pa]
              refine tkA 5 18 (v := ?_) rfl (by kernel_rfl) (fun _ _ _ h => h) (by rfl) ?_ (by assumption) ?_; rotate_left; · (intro w hSw; (try dsimp only at hSw); go_simp; try with_reducible rfl)
              simp only [pa]
              refine tkA 6 19 (v := ?_) rfl (by kernel_rfl) (fun _ _ _ h => h) (by rfl) ?_ (by assumption) ?_; rotate_left; · (intro w hSw; (try dsimp only at hSw); go_simp; try with_reducible rfl)
              simp only [pa]
              refine tkA 7 20 (v := ?_) rfl (by kernel_rfl) (fun _ _ _ h => h) (by rfl) ?_ (by assumption) ?_; rotate_left; · (intro w hSw; (try dsimp only at hSw); go_simp; try with_reducible rfl)
              simp only [pa]
              refine tkA 8 21 (v := ?_) rfl (by kernel_rfl) (fun _ _ _ h => h) (by rfl) ?_ (by assumption) ?_; rotate_left; · (intro w hSw; (try dsimp only at hSw); go_simp; try with_reducible rfl)
              simp only [pa]
              refine wpAnyH_ready (rs := [9]) (by kernel_rfl) (by simp) ?_
              refine AllReadyH.cons rfl (fun K hK => ?_) AllReadyH.nil
              go_simp
              go_wp2_with (first | (go_at_call 74; refine (HCa.out _ (below_box HBel.out HBel.out.size HXB.out (hHeld.2.2.2.2.2.2.2.2.2.2.2))).mono ?_; rintro e w2 ⟨rfl, hb2⟩; have b2 := (hHeld.2.2.2.2.2.2.2.2.2.2.2).trans (hb2.mono (hHeld.2.2.2.2.2.2.2.2.2.2.2).size)))
              refine hK.out _ _ ?_ (fun hHeld => ?_)
              · try dsimp only
                exact HSx.out _ b2
              clear hK K
              refine tkA 10 23 (v := ?_) rfl (by kernel_rfl) (fun _ _ _ h => h) (by rfl) ?_ (by assumption) ?_; rotate_left; · (intro w hSw; (try dsimp only at hSw); go_simp; try with_reducible rfl)
              simp only [pa]
              refine tkA 11 24 (v := ?_) rfl (by kernel_rfl) (fun _ _ _ h => h) (by rfl) ?_ (by assumption) ?_; rotate_left; · (intro w hSw; (try dsimp only at hSw); go_simp; try with_reducible rfl)
              simp only [pa]
              refine tkA 12 25 (v := ?_) rfl (by kernel_rfl) (fun _ _ _ h => h) (by rfl) ?_ (by assumption) ?_; rotate_left; · (intro w hSw; (try dsimp only at hSw); go_simp; try with_reducible rfl)
              simp only [pa]
              refine tkA 13 26 (v := ?_) rfl (by kernel_rfl) (fun _ _ _ h => h) (by rfl) ?_ (by assumption) ?_; rotate_left; · (intro w hSw; (try dsimp only at hSw); go_simp; try with_reducible rfl)
              simp only [pa]
              refine tkA 14 27 (v := ?_) rfl (by kernel_rfl) (fun _ _ _ h => h) (by rfl) ?_ (by assumption) ?_; rotate_left; · (intro w hSw; (try dsimp only at hSw); go_simp; try with_reducible rfl)
              simp only [pa]
              refine tkA 15 28 (v := ?_) rfl (by kernel_rfl) (fun _ _ _ h => h) (by rfl) ?_ (by assumption) ?_; rotate_left; · (intro w hSw; (try dsimp only at hSw); go_simp; try with_reducible rfl)
              simp only [pa]
              refine tkA 16 29 (v := ?_) rfl (by kernel_rfl) (fun _ _ _ h => h) (by rfl) ?_ (by assumption) ?_; rotate_left; · (intro w hSw; (try dsimp only at hSw); go_simp; try with_reducible rfl)
              simp only [pa]
              refine tkA 17 30 (v := ?_) rfl (by kernel_rfl) (fun _ _ _ h => h) (by rfl) ?_ (by assumption) ?_; rotate_left; · (intro w hSw; (try dsimp only at hSw); go_simp; try with_reducible rfl)
              simp only [pa]
              refine tkA 18 31 (v := ?_) rfl (by kernel_rfl) (fun _ _ _ h => h) (by rfl) ?_ (by assumption) ?_; rotate_left; · (intro w hSw; (try dsimp only at hSw); go_simp; try with_reducible rfl)
              simp only [pa]
              refine tkA 19 32 (v := ?_) rfl (by kernel_rfl) (fun _ _ _ h => h) (by rfl) ?_ (by assumption) ?_; rotate_left; · (intro w hSw; (try dsimp only at hSw); go_simp; try with_reducible rfl)
              simp only [pa]
              refine tkA 20 33 (v := ?_) rfl (by kernel_rfl) (fun _ _ _ h => h) (by rfl) ?_ (by assumption) ?_; rotate_left; · (intro w hSw; (try dsimp only at hSw); go_simp; try with_reducible rfl)
              simp only [pa]
              refine tkA 21 34 (v := ?_) rfl (by kernel_rfl) (fun _ _ _ h => h) (by rfl) ?_ (by assumption) ?_; rotate_left; · (intro w hSw; (try dsimp only at hSw); go_simp; try with_reducible rfl)
              simp only [pa]
              refine tkA 22 35 (v := ?_) rfl (by kernel_rfl) (fun _ _ _ h => h) (by rfl) ?_ (by assumption) ?_; rotate_left; · (intro w hSw; (try dsimp only at hSw); go_simp; try with_reducible rfl)
              simp only [pa]
              refine tkA 23 36 (v := ?_) rfl (by kernel_rfl) (fun _ _ _ h => h) (by rfl) ?_ (by assumption) ?_; rotate_left; · (intro w hSw; (try dsimp only at hSw); go_simp; try with_reducible rfl)
              simp only [pa]
              refine tkA 24 37 (v := ?_) rfl (by kernel_rfl) (fun _ _ _ h => h) (by rfl) ?_ (by assumption) ?_; rotate_left; · (intro w hSw; (try dsimp only at hSw); go_simp; try with_reducible rfl)
              simp only [pa]
              refine wpAnyH_ready (rs := [25]) (by kernel_rfl) (by simp) ?_
              refine AllReadyH.cons rfl (fun K hK => ?_) AllReadyH.nil
              go_simp
              go_wp2_with (first | (go_at_call 72; refine (HFo.out _).mono ?_; rintro e w3 ⟨rfl, hb3⟩; have b3 := (hHeld.2.2.2.2.2.2.2.2.2.2.2).trans (hb3.mono (hHeld.2.2.2.2.2.2.2.2.2.2.2).size)))
              refine hK.out _ _ ?_ (fun hHeld => ?_)
              · try dsimp only
                exact HSx.out _ b3
              clear hK K
              refine tkA 26 39 (v := ?_) rfl (by kernel_rfl) (fun _ _ _ h => h) (by rfl) ?_ (by assumption) ?_; rotate_left; · (intro w hSw; (try dsimp only at hSw); go_simp; try with_reducible rfl)
              simp only [pa]
              refine tkA 27 40 (v := ?_) rfl (by kernel_rfl) (fun _ _ _ h => h) (by rfl) ?_ (by assumption) ?_; rotate_left; · (intro w hSw; (try dsimp only at hSw); go_simp; try with_reducible rfl)
              simp only [pa]
              refine tkA 28 41 (v := ?_) rfl (by kernel_rfl) (fun _ _ _ h => h) (by rfl) ?_ (by assumption) ?_; rotate_left; · (intro w hSw; (try dsimp only at hSw); go_simp; try with_reducible rfl)
              simp only [pa]
              have HE := hidP (hHeld.2.2.2.2.2.2.2.2.2.2.2)
              refine wpAnyH_done (by kernel_rfl) ?_ _
              clear hHeld
              go_wp2_with fail
              go_roundw
              case rel => exact ⟨k + 1, by omega, by go_num, by rw [HF.out, HNx.out], (fun r h => by rw [HNx.out] at h; cases h; exact HOk.out), below_box HBel.out HBel.out.size HXB.out HE.out⟩
              case measure => simp [intOf]; omega
    · have HF : Hid (blocksI ps none bs = true) := by
        rw [List.drop_of_length_le (by have := HN.out; omega)] at hpo
        exact hidP hpo
      have HBel := hidP hbel
      clear hbel hpo hpr
      go_wp2_with fail
      go_ret
      exact ⟨ret_b HF.out.symm, HUB.out.trans (HBel.out.mono HUB.out.size)⟩

end Go.Proofs.YtplocbpngikohaaGreat
