/-
  The specification's SameState of two states that hold the same book, and nothing else; the laws' sameBook.
-/
import Derived.Test.YtddnofonodgneaaGreatDoorRLease
import Derived.Test.YtddnofonodgneaaGreatDoorV6Own
import Derived.Test.YtddnofonodgneaaGreatDoorV6IAd
import Derived.Test.YtddnofonodgneaaGreatDoorACmpS
import Derived.Deep.RegionHeld3
namespace Go.Proofs.YtddnofonodgneaaGreatDoor
open Go.RowKit

theorem box8 (w : World) (t : TypeId) (v0 v1 v2 v3 v4 v5 v6 v7 : Value) : (w.alloc (.cells #[v0, v1, v2, v3, v4, v5, v6, v7] t)).cell? ⟨w.heap.size, 0, none⟩ = some v0 ∧ (w.alloc (.cells #[v0, v1, v2, v3, v4, v5, v6, v7] t)).cell? ⟨w.heap.size, 1, none⟩ = some v1 ∧ (w.alloc (.cells #[v0, v1, v2, v3, v4, v5, v6, v7] t)).cell? ⟨w.heap.size, 2, none⟩ = some v2 ∧ (w.alloc (.cells #[v0, v1, v2, v3, v4, v5, v6, v7] t)).cell? ⟨w.heap.size, 3, none⟩ = some v3 ∧ (w.alloc (.cells #[v0, v1, v2, v3, v4, v5, v6, v7] t)).cell? ⟨w.heap.size, 4, none⟩ = some v4 ∧ (w.alloc (.cells #[v0, v1, v2, v3, v4, v5, v6, v7] t)).cell? ⟨w.heap.size, 5, none⟩ = some v5 ∧ (w.alloc (.cells #[v0, v1, v2, v3, v4, v5, v6, v7] t)).cell? ⟨w.heap.size, 6, none⟩ = some v6 ∧ (w.alloc (.cells #[v0, v1, v2, v3, v4, v5, v6, v7] t)).cell? ⟨w.heap.size, 7, none⟩ = some v7 := by
  refine ⟨?_, ?_, ?_, ?_, ?_, ?_, ?_, ?_⟩ <;> simp [go_sem]
theorem eqAd9 (a : Bool) (b c : Int) (w : World) : (Op.equalIn 9999 28 (.agg #[.bool a, .int .i64 b, .int .i64 c]) (.agg #[.bool a, .int .i64 b, .int .i64 c])).run Tryz.prog w = .ok true w := by
  have u3 := Tryz.underlying3
  have a3 := Tryz.isAgg3
  have z3 := Tryz.sizeOf3
  have u4 := Tryz.underlying4
  have a4 := Tryz.isAgg4
  have z4 := Tryz.sizeOf4
  have hS : Tryz.prog.underlying 28 = some (.struct (Tryz.prog.fieldsOf 28)) := by kernel_rfl
  have hp : Tryz.prog.stoodInHeld 28 = false := by kernel_rfl
  rw [show (9999 : Nat) = 9998 + 1 from rfl, run_equalIn_agg w 9998 28 _ _ hS hp]
  simp only [Program.fieldsOf, Tryz.underlying28]
  go_simp
theorem eqLs (q : Ls) (w : World) : (Op.equalIn 10000 35 (.agg #[.bool q.a.s, .int .i64 q.a.H.toInt, .int .i64 q.a.L.toInt, .string q.t, .int .i64 q.k, .int .i64 q.u]) (.agg #[.bool q.a.s, .int .i64 q.a.H.toInt, .int .i64 q.a.L.toInt, .string q.t, .int .i64 q.k, .int .i64 q.u])).run Tryz.prog w = .ok true w := by
  have u3 := Tryz.underlying3
  have a3 := Tryz.isAgg3
  have z3 := Tryz.sizeOf3
  have u4 := Tryz.underlying28
  have a4 := Tryz.isAgg28
  have z4 := Tryz.sizeOf28
  have u5 := Tryz.underlying9
  have a5 := Tryz.isAgg9
  have z5 := Tryz.sizeOf9
  have hS : Tryz.prog.underlying 35 = some (.struct (Tryz.prog.fieldsOf 35)) := by kernel_rfl
  have hp : Tryz.prog.stoodInHeld 35 = false := by kernel_rfl
  have h9 := eqAd9 q.a.s q.a.H.toInt q.a.L.toInt
  rw [show (10000 : Nat) = 9999 + 1 from rfl, run_equalIn_agg w 9999 35 _ _ hS hp]
  simp only [Program.fieldsOf, Tryz.underlying35]
  go_simp
set_option maxRecDepth 10000 in
set_option maxHeartbeats 4000000 in
theorem sameSt_any (b d : Option Addr) (n cb cd : Nat) (K N : Int) (ls : List Ls) (w : World) (hn : n = ls.length) (h1 : RowG KLs w b ls) (h2 : RowG KLs w d ls) (hl : n ≤ 1048576) :
    Calls Tryz.prog 34 #[.agg #[.slice none 0 0, .slice none 0 0, .slice b n cb, .int .i64 K, .int .i64 N, .slice none 0 0, .int .i64 0, .int .i64 0], .agg #[.slice none 0 0, .slice none 0 0, .slice d n cd, .int .i64 K, .int .i64 N, .slice none 0 0, .int .i64 0, .int .i64 0]] w fun e w' => e = .returned (.bool true) ∧ Below w.heap.size w w' := by
  have HB := hidP (fun W h => h1.later (w' := W) h)
  have HD := hidP (fun W h => h2.later (w' := W) h)
  have HN := hidP hn
  clear h1 h2 hn
  go_enter Tryz.func34, Tryz.ntmps34
  go_wp2_with fail
  obtain ⟨x0, x1, x2, x3, x4, x5, x6, x7⟩ := box8 w 77 (.slice none 0 0) (.slice none 0 0) (.slice b n cb) (.int .i64 K) (.int .i64 N) (.slice none 0 0) (.int .i64 0) (.int .i64 0)
  have xB := alloc_below w (.cells #[.slice none 0 0, .slice none 0 0, .slice b n cb, .int .i64 K, .int .i64 N, .slice none 0 0, .int .i64 0, .int .i64 0] 77)
  have xL := alloc_lt w (.cells #[.slice none 0 0, .slice none 0 0, .slice b n cb, .int .i64 K, .int .i64 N, .slice none 0 0, .int .i64 0, .int .i64 0] 77)
  have xS : (w.alloc (.cells #[.slice none 0 0, .slice none 0 0, .slice b n cb, .int .i64 K, .int .i64 N, .slice none 0 0, .int .i64 0, .int .i64 0] 77)).heap.size = w.heap.size + 1 := by simp
  generalize w.alloc (.cells #[.slice none 0 0, .slice none 0 0, .slice b n cb, .int .i64 K, .int .i64 N, .slice none 0 0, .int .i64 0, .int .i64 0] 77) = W1 at *
  obtain ⟨y0, y1, y2, y3, y4, y5, y6, y7⟩ := box8 W1 77 (.slice none 0 0) (.slice none 0 0) (.slice d n cd) (.int .i64 K) (.int .i64 N) (.slice none 0 0) (.int .i64 0) (.int .i64 0)
  have yB := alloc_below W1 (.cells #[.slice none 0 0, .slice none 0 0, .slice d n cd, .int .i64 K, .int .i64 N, .slice none 0 0, .int .i64 0, .int .i64 0] 77)
  have yL := alloc_lt W1 (.cells #[.slice none 0 0, .slice none 0 0, .slice d n cd, .int .i64 K, .int .i64 N, .slice none 0 0, .int .i64 0, .int .i64 0] 77)
  have yS : (W1.alloc (.cells #[.slice none 0 0, .slice none 0 0, .slice d n cd, .int .i64 K, .int .i64 N, .slice none 0 0, .int .i64 0, .int .i64 0] 77)).heap.size = W1.heap.size + 1 := by simp
  generalize W1.alloc (.cells #[.slice none 0 0, .slice none 0 0, .slice d n cd, .int .i64 K, .int .i64 N, .slice none 0 0, .int .i64 0, .int .i64 0] 77) = W2 at *
  rw [xS] at y0 y1 y2 y3 y4 y5 y6 y7 yL yS
  have hL0 : w.heap.size < W2.heap.size := by omega
  have X0 := (yB.cell xL).trans x0
  have X1 := (yB.cell xL).trans x1
  have X2 := (yB.cell xL).trans x2
  have X3 := (yB.cell xL).trans x3
  have X4 := (yB.cell xL).trans x4
  have X5 := (yB.cell xL).trans x5
  have X6 := (yB.cell xL).trans x6
  have X7 := (yB.cell xL).trans x7
  have HU := hidP (xB.trans (yB.mono xB.size))
  have HR := hidP (HB.out _ HU.out)
  have HQ := hidP (HD.out _ HU.out)
  clear xB yB xS yS x0 x1 x2 x3 x4 x5 x6 x7 HB HD xL
  go_loopw [5] (fun t5 wr => t5 = .int .i64 0 ∧ W2 = wr) (fun _ _ => 0)
  case atStart => exact ⟨rfl, rfl⟩
  case round =>
    obtain ⟨rfl, rfl⟩ := hrel
    go_wp2_with fail
    go_loopw [6] (fun t6 wr => t6 = .int .i64 0 ∧ W2 = wr) (fun _ _ => 0)
    case atStart => exact ⟨rfl, rfl⟩
    case round =>
      obtain ⟨rfl, rfl⟩ := hrel
      go_wp2_with fail
      go_loopw [7] (fun t7 wr => ∃ k : Nat, k ≤ n ∧ t7 = .int .i64 k ∧ Below W2.heap.size W2 wr) (fun t7 _ => n - (intOf t7).toNat)
      case atStart => exact ⟨0, Nat.zero_le _, rfl, Below.refl _ _⟩
      case round =>
        obtain ⟨k, hk, rfl, hbel⟩ := hrel
        have HBel := hidP hbel
        have XL : w.heap.size < wr.heap.size := Nat.lt_of_lt_of_le hL0 hbel.size
        have YL : w.heap.size + 1 < wr.heap.size := Nat.lt_of_lt_of_le yL hbel.size
        have z0 := (hbel.cell hL0).trans X0
        have s0 := (hbel.cell yL).trans y0
        have z1 := (hbel.cell hL0).trans X1
        have s1 := (hbel.cell yL).trans y1
        have z2 := (hbel.cell hL0).trans X2
        have s2 := (hbel.cell yL).trans y2
        have z3 := (hbel.cell hL0).trans X3
        have s3 := (hbel.cell yL).trans y3
        have z4 := (hbel.cell hL0).trans X4
        have s4 := (hbel.cell yL).trans y4
        have z5 := (hbel.cell hL0).trans X5
        have s5 := (hbel.cell yL).trans y5
        have z6 := (hbel.cell hL0).trans X6
        have s6 := (hbel.cell yL).trans y6
        have z7 := (hbel.cell hL0).trans X7
        have s7 := (hbel.cell yL).trans y7
        clear X0 y0 X1 y1 X2 y2 X3 y3 X4 y4 X5 y5 X6 y6 X7 y7
        by_cases hlt : k < n
        · obtain ⟨p, o, q, rfl, hp, hq, c0, c1, c2, c3, c4, c5⟩ := rowLs HR.out k (by have := HN.out; omega)
          obtain ⟨p', o', q', rfl, hp', hq', e0, e1, e2, e3, e4, e5⟩ := rowLs HQ.out k (by have := HN.out; omega)
          rw [hq] at hq'
          cases hq'
          have d0 := (hbel.cell hp).trans c0
          have g0 := (hbel.cell hp').trans e0
          have d1 := (hbel.cell hp).trans c1
          have g1 := (hbel.cell hp').trans e1
          have d2 := (hbel.cell hp).trans c2
          have g2 := (hbel.cell hp').trans e2
          have d3 := (hbel.cell hp).trans c3
          have g3 := (hbel.cell hp').trans e3
          have d4 := (hbel.cell hp).trans c4
          have g4 := (hbel.cell hp').trans e4
          have d5 := (hbel.cell hp).trans c5
          have g5 := (hbel.cell hp').trans e5
          have hpw : p < wr.heap.size := Nat.lt_of_lt_of_le hp hbel.size
          have hpw' : p' < wr.heap.size := Nat.lt_of_lt_of_le hp' hbel.size
          have k0 : (0 : Int) ≤ (k : Int) := by omega
          have k1 : (k : Int) < (n : Int) := by omega
          have hE := fun wx => eqLs q wx
          clear c0 c1 c2 c3 c4 c5 e0 e1 e2 e3 e4 e5 hq hbel
          go_wp2_with fail
          have HSx : Hid (∀ x, Below wr.heap.size wr x → (x.cell? ⟨w.heap.size, 2, none⟩ = some (.slice (some ⟨p, o, none⟩) n cb) ∧ x.cell? ⟨w.heap.size + 1, 2, none⟩ = some (.slice (some ⟨p', o', none⟩) n cd) ∧ x.cell? ⟨p, o + k * 6, none⟩ = some (.bool q.a.s) ∧ x.cell? ⟨p, o + k * 6 + 1, none⟩ = some (.int .i64 q.a.H.toInt) ∧ x.cell? ⟨p, o + k * 6 + 2, none⟩ = some (.int .i64 q.a.L.toInt) ∧ x.cell? ⟨p, o + k * 6 + 3, none⟩ = some (.string q.t) ∧ x.cell? ⟨p, o + k * 6 + 4, none⟩ = some (.int .i64 q.k) ∧ x.cell? ⟨p, o + k * 6 + 5, none⟩ = some (.int .i64 q.u) ∧ x.cell? ⟨p', o' + k * 6, none⟩ = some (.bool q.a.s) ∧ x.cell? ⟨p', o' + k * 6 + 1, none⟩ = some (.int .i64 q.a.H.toInt) ∧ x.cell? ⟨p', o' + k * 6 + 2, none⟩ = some (.int .i64 q.a.L.toInt) ∧ x.cell? ⟨p', o' + k * 6 + 3, none⟩ = some (.string q.t) ∧ x.cell? ⟨p', o' + k * 6 + 4, none⟩ = some (.int .i64 q.k) ∧ x.cell? ⟨p', o' + k * 6 + 5, none⟩ = some (.int .i64 q.u) ∧ Below wr.heap.size wr x)) := hidP fun x h =>
            ⟨(h.cell XL).trans z2, (h.cell YL).trans s2, (h.cell hpw).trans d0, (h.cell hpw).trans d1, (h.cell hpw).trans d2, (h.cell hpw).trans d3, (h.cell hpw).trans d4, (h.cell hpw).trans d5, (h.cell hpw').trans g0, (h.cell hpw').trans g1, (h.cell hpw').trans g2, (h.cell hpw').trans g3, (h.cell hpw').trans g4, (h.cell hpw').trans g5, h⟩
          refine wp_region_held_drew (S := (fun x => x.cell? ⟨w.heap.size, 2, none⟩ = some (.slice (some ⟨p, o, none⟩) n cb) ∧ x.cell? ⟨w.heap.size + 1, 2, none⟩ = some (.slice (some ⟨p', o', none⟩) n cd) ∧ x.cell? ⟨p, o + k * 6, none⟩ = some (.bool q.a.s) ∧ x.cell? ⟨p, o + k * 6 + 1, none⟩ = some (.int .i64 q.a.H.toInt) ∧ x.cell? ⟨p, o + k * 6 + 2, none⟩ = some (.int .i64 q.a.L.toInt) ∧ x.cell? ⟨p, o + k * 6 + 3, none⟩ = some (.string q.t) ∧ x.cell? ⟨p, o + k * 6 + 4, none⟩ = some (.int .i64 q.k) ∧ x.cell? ⟨p, o + k * 6 + 5, none⟩ = some (.int .i64 q.u) ∧ x.cell? ⟨p', o' + k * 6, none⟩ = some (.bool q.a.s) ∧ x.cell? ⟨p', o' + k * 6 + 1, none⟩ = some (.int .i64 q.a.H.toInt) ∧ x.cell? ⟨p', o' + k * 6 + 2, none⟩ = some (.int .i64 q.a.L.toInt) ∧ x.cell? ⟨p', o' + k * 6 + 3, none⟩ = some (.string q.t) ∧ x.cell? ⟨p', o' + k * 6 + 4, none⟩ = some (.int .i64 q.k) ∧ x.cell? ⟨p', o' + k * 6 + 5, none⟩ = some (.int .i64 q.u) ∧ Below wr.heap.size wr x)) (by kernel_rfl) ?_ (fun hHeld => ?_)
          · try dsimp only
            exact HSx.out _ ((Below.refl _ _).drew)
          refine wpAnyH_take (i := 0) (oi := ⟨some 101, _, _, _, _, _⟩) (v := ?_) rfl (by kernel_rfl) (by kernel_rfl) (by kernel_rfl) (fun _ _ _ h => h) (Or.inl ⟨by rfl, ?_⟩) (by assumption) ?_
          rotate_left
          · intro w hSw
            try dsimp only at hSw
            go_simp
            try with_reducible rfl
          simp only [Act.put, List.setIfInBounds_toArray, List.set_cons_zero, List.set_cons_succ]
          refine wpAnyH_take (i := 1) (oi := ⟨some 102, _, _, _, _, _⟩) (v := ?_) rfl (by kernel_rfl) (by kernel_rfl) (by kernel_rfl) (fun _ _ _ h => h) (Or.inl ⟨by rfl, ?_⟩) (by assumption) ?_
          rotate_left
          · intro w hSw
            try dsimp only at hSw
            go_simp
            try with_reducible rfl
          simp only [Act.put, List.setIfInBounds_toArray, List.set_cons_zero, List.set_cons_succ]
          refine wpAnyH_take (i := 2) (oi := ⟨some 103, _, _, _, _, _⟩) (v := ?_) rfl (by kernel_rfl) (by kernel_rfl) (by kernel_rfl) (fun _ _ _ h => h) (Or.inl ⟨by rfl, ?_⟩) (by assumption) ?_
          rotate_left
          · intro w hSw
            try dsimp only at hSw
            go_simp
            try with_reducible rfl
          simp only [Act.put, List.setIfInBounds_toArray, List.set_cons_zero, List.set_cons_succ]
          refine wpAnyH_take (i := 3) (oi := ⟨some 104, _, _, _, _, _⟩) (v := ?_) rfl (by kernel_rfl) (by kernel_rfl) (by kernel_rfl) (fun _ _ _ h => h) (Or.inl ⟨by rfl, ?_⟩) (by assumption) ?_
          rotate_left
          · intro w hSw
            try dsimp only at hSw
            go_simp
            try with_reducible rfl
          simp only [Act.put, List.setIfInBounds_toArray, List.set_cons_zero, List.set_cons_succ]
          refine wpAnyH_take (i := 4) (oi := ⟨some 105, _, _, _, _, _⟩) (v := ?_) rfl (by kernel_rfl) (by kernel_rfl) (by kernel_rfl) (fun _ _ _ h => h) (Or.inl ⟨by rfl, ?_⟩) (by assumption) ?_
          rotate_left
          · intro w hSw
            try dsimp only at hSw
            go_simp
            try with_reducible rfl
          simp only [Act.put, List.setIfInBounds_toArray, List.set_cons_zero, List.set_cons_succ]
          refine wpAnyH_take (i := 5) (oi := ⟨some 106, _, _, _, _, _⟩) (v := ?_) rfl (by kernel_rfl) (by kernel_rfl) (by kernel_rfl) (fun _ _ _ h => h) (Or.inl ⟨by rfl, ?_⟩) (by assumption) ?_
          rotate_left
          · intro w hSw
            try dsimp only at hSw
            go_simp
            try with_reducible rfl
          simp only [Act.put, List.setIfInBounds_toArray, List.set_cons_zero, List.set_cons_succ]
          refine wpAnyH_take (i := 6) (oi := ⟨some 107, _, _, _, _, _⟩) (v := ?_) rfl (by kernel_rfl) (by kernel_rfl) (by kernel_rfl) (fun _ _ _ h => h) (Or.inl ⟨by rfl, ?_⟩) (by assumption) ?_
          rotate_left
          · intro w hSw
            try dsimp only at hSw
            go_simp
            try with_reducible rfl
          simp only [Act.put, List.setIfInBounds_toArray, List.set_cons_zero, List.set_cons_succ]
          refine wpAnyH_take (i := 7) (oi := ⟨some 108, _, _, _, _, _⟩) (v := ?_) rfl (by kernel_rfl) (by kernel_rfl) (by kernel_rfl) (fun _ _ _ h => h) (Or.inl ⟨by rfl, ?_⟩) (by assumption) ?_
          rotate_left
          · intro w hSw
            try dsimp only at hSw
            go_simp
            try with_reducible rfl
          simp only [Act.put, List.setIfInBounds_toArray, List.set_cons_zero, List.set_cons_succ]
          refine wpAnyH_take (i := 8) (oi := ⟨some 109, _, _, _, _, _⟩) (v := ?_) rfl (by kernel_rfl) (by kernel_rfl) (by kernel_rfl) (fun _ _ _ h => h) (Or.inl ⟨by rfl, ?_⟩) (by assumption) ?_
          rotate_left
          · intro w hSw
            try dsimp only at hSw
            go_simp
            try with_reducible rfl
          simp only [Act.put, List.setIfInBounds_toArray, List.set_cons_zero, List.set_cons_succ]
          refine wpAnyH_take (i := 9) (oi := ⟨some 110, _, _, _, _, _⟩) (v := ?_) rfl (by kernel_rfl) (by kernel_rfl) (by kernel_rfl) (fun _ _ _ h => h) (Or.inl ⟨by rfl, ?_⟩) (by assumption) ?_
          rotate_left
          · intro w hSw
            try dsimp only at hSw
            go_simp
            try with_reducible rfl
          simp only [Act.put, List.setIfInBounds_toArray, List.set_cons_zero, List.set_cons_succ]
          refine wpAnyH_take (i := 10) (oi := ⟨some 111, _, _, _, _, _⟩) (v := ?_) rfl (by kernel_rfl) (by kernel_rfl) (by kernel_rfl) (fun _ _ _ h => h) (Or.inl ⟨by rfl, ?_⟩) (by assumption) ?_
          rotate_left
          · intro w hSw
            try dsimp only at hSw
            go_simp
            try with_reducible rfl
          simp only [Act.put, List.setIfInBounds_toArray, List.set_cons_zero, List.set_cons_succ]
          refine wpAnyH_take (i := 11) (oi := ⟨some 112, _, _, _, _, _⟩) (v := ?_) rfl (by kernel_rfl) (by kernel_rfl) (by kernel_rfl) (fun _ _ _ h => h) (Or.inl ⟨by rfl, ?_⟩) (by assumption) ?_
          rotate_left
          · intro w hSw
            try dsimp only at hSw
            go_simp
            try with_reducible rfl
          simp only [Act.put, List.setIfInBounds_toArray, List.set_cons_zero, List.set_cons_succ]
          refine wpAnyH_take (i := 12) (oi := ⟨some 113, _, _, _, _, _⟩) (v := ?_) rfl (by kernel_rfl) (by kernel_rfl) (by kernel_rfl) (fun _ _ _ h => h) (Or.inl ⟨by rfl, ?_⟩) (by assumption) ?_
          rotate_left
          · intro w hSw
            try dsimp only at hSw
            go_simp
            try with_reducible rfl
          simp only [Act.put, List.setIfInBounds_toArray, List.set_cons_zero, List.set_cons_succ]
          have HE := hidP (hHeld.2.2.2.2.2.2.2.2.2.2.2.2.2.2)
          refine wpAnyH_done (by kernel_rfl) ?_ _
          clear hHeld
          go_wp2_with fail
          go_roundw
          case rel => exact ⟨k + 1, by omega, by go_num, HBel.out.trans (HE.out.mono HBel.out.size)⟩
          case measure => simp [intOf]; omega
        · have gk : decide ((k : Int) < (n : Int)) = false := decide_eq_false (by omega)
          clear hbel
          go_wp2_with fail
          go_loopw [8] (fun t8 wx => t8 = .int .i64 0 ∧ wr = wx) (fun _ _ => 0)
          case atStart => exact ⟨rfl, rfl⟩
          case round =>
            obtain ⟨rfl, rfl⟩ := hrel
            go_wp2_with fail
            go_ret
            exact ⟨rfl, HU.out.trans (HBel.out.mono HU.out.size)⟩

set_option maxRecDepth 10000 in
theorem sameBook_any (b d : Option Addr) (n cb cd : Nat) (K N : Int) (ls : List Ls) (w : World) (hn : n = ls.length) (h1 : RowG KLs w b ls) (h2 : RowG KLs w d ls) (hl : n ≤ 1048576) :
    Calls Tryz.prog 9 #[.agg #[.slice b n cb, .int .i64 K, .int .i64 N], .agg #[.slice d n cd, .int .i64 K, .int .i64 N]] w fun e w' => e = .returned (.bool true) ∧ Below w.heap.size w w' := by
  have HS := hidP (fun W h => sameSt_any b d n cb cd K N ls W hn (h1.later (w' := W) h) (h2.later (w' := W) h) hl)
  clear h1 h2 hn
  go_enter Tryz.func9, Tryz.ntmps9
  go_wp2_with fail
  refine (HS.out _ ((alloc_below w _).alloc (by simp) _)).mono ?_
  rintro e w2 ⟨rfl, hb2⟩
  have HB := hidP (((alloc_below w _).alloc (by simp) _).trans (hb2.mono (by simp; omega)))
  clear hb2
  go_wp2_with fail
  go_ret
  exact ⟨rfl, HB.out⟩

end Go.Proofs.YtddnofonodgneaaGreatDoor
