/-
  The specification's Largest: of Without the first with the fewest bits, or none.
-/
import Derived.Test.YtamocbkamjnonaaPWoS
import Derived.Test.YtamocbkamjnonaaILarg
namespace Go.Proofs.Ytamocbkamjnonaa
open Go.RowKit

theorem lgs_take (ys : List Sp) (i : Nat) (t : Sp) (h : ys[i]? = some t) : lgs (ys.take (i + 1)) = lgStep (lgs (ys.take i)) t := by
  rw [List.take_add_one, h]; exact lgs_snoc _ _

set_option maxRecDepth 10000 in
set_option maxHeartbeats 2000000 in
theorem sLarg (p : Pf) (a : Option Addr) (n cap : Nat) (w : World) (ys : List Sp) (hm : ys.length ≤ 1048576)
    (hS : ∀ wx, Below w.heap.size w wx → Calls Try.prog 16 #[.agg #[.bool p.s, .int .i64 p.H.toInt, .int .i64 p.L.toInt, .int .i64 p.b], .slice a n cap] wx fun e w' => ∃ a' c', e = .returned (.slice a' ys.length c') ∧ OwnR 37 w' wx.heap.size (.slice a' ys.length c') (ys.map Sp.pre) ∧ Below wx.heap.size wx w') :
    Calls Try.prog 30 #[.agg #[.bool p.s, .int .i64 p.H.toInt, .int .i64 p.L.toInt, .int .i64 p.b], .slice a n cap] w fun e w' => e = .returned (.tuple #[.agg #[.bool (lgP (lgs ys)).s, .int .i64 (lgP (lgs ys)).H.toInt, .int .i64 (lgP (lgs ys)).L.toInt, .int .i64 (lgP (lgs ys)).b], .bool (lgs ys).isSome]) ∧ Below w.heap.size w w' := by
  have HS := hidP hS
  clear hS
  obtain ⟨m, hme⟩ : ∃ m, m = ys.length := ⟨_, rfl⟩
  rw [← hme] at HS hm
  have HM := hidP hme
  clear hme
  go_enter Try.func30, Try.ntmps30
  go_wp2_with fail
  obtain ⟨os, hos⟩ : ∃ os : List Obj, os = [.cells #[.bool p.s, .int .i64 p.H.toInt, .int .i64 p.L.toInt, .int .i64 p.b] 37, .cells #[.bool false, .int .i64 0, .int .i64 0, .int .i64 0] 37] := ⟨_, rfl⟩
  obtain ⟨W, hW⟩ : ∃ W, W = allocs w os := ⟨_, rfl⟩
  have hWe : (w.alloc (.cells #[.bool p.s, .int .i64 p.H.toInt, .int .i64 p.L.toInt, .int .i64 p.b] 37)).alloc (.cells #[.bool false, .int .i64 0, .int .i64 0, .int .i64 0] 37) = W := by rw [hW, hos]; rfl
  have hb1 : Below w.heap.size w W := by rw [hW]; exact allocs_below os w
  have hsz : W.heap.size = w.heap.size + 2 := by rw [hW, allocs_size, hos]; rfl
  have h1 : W.heap[w.heap.size + 1]? = some (.cells #[.bool false, .int .i64 0, .int .i64 0, .int .i64 0] 37) := by rw [hW]; exact allocs_at os w 1 _ (by rw [hos]; rfl)
  rw [hWe]
  have HB1 := hidP hb1
  have H1 := hidP h1
  clear hW hWe hos hb1 h1
  refine (HS.out W HB1.out).mono ?_
  rintro e w2 ⟨a2, c2, rfl, ho2, hb2⟩
  have k1 := (hb2.block _ (lt_heap H1.out)).trans H1.out
  have HK1 := hidP k1
  have HB2 := hidP (HB1.out.trans (hb2.mono HB1.out.size))
  have HR2 := hidP ho2.row
  have hz2 := hb2.size
  have hz2' : w.heap.size + 2 ≤ w2.heap.size := by omega
  clear ho2 hb2 k1 H1 HS
  by_cases hm0 : m = 0
  · subst hm0
    have HE : Hid (ys = []) := hidP (List.eq_nil_of_length_eq_zero HM.out.symm)
    obtain ⟨⟨v0, v1, v2, v3⟩, f0, f1, f2, f3⟩ := of4 HK1.out
    have lz := lt_heap HK1.out
    have HZ := hidP (of4 (set4 (a' := .bool false) (b' := .int .i64 0) (c' := .int .i64 0) (d' := .int .i64 0) HK1.out)).1
    go_wp2_with fail
    obtain ⟨g0, g1, g2, g3⟩ := HZ.out
    refine bodyPost_ret (v := .tuple #[.agg #[.bool false, .int .i64 0, .int .i64 0, .int .i64 0], .bool false]) (by simp [results, Try.results30, go_sem, g0, g1, g2, g3]) rfl ⟨by rw [HE.out]; rfl, ?_⟩
    exact (((HB2.out.setCell (p := ⟨w.heap.size + 1, 0, none⟩) (Nat.le_succ _) _).setCell (p := ⟨w.heap.size + 1, 1, none⟩) (Nat.le_succ _) _).setCell (p := ⟨w.heap.size + 1, 2, none⟩) (Nat.le_succ _) _).setCell (p := ⟨w.heap.size + 1, 3, none⟩) (Nat.le_succ _) _
  · have hm1 : (((m : Nat) : Int) == 0) = false := by rw [beq_eq_false_iff_ne]; omega
    have hm2 : 0 < m := by omega
    obtain ⟨p0, o0, t0, rfl, hp0, ht0, e0, e1, e2, e3⟩ := HR2.out.pre 0 (by rw [← HM.out]; exact hm2)
    simp only [Nat.zero_mul, Nat.add_zero] at e0 e1 e2 e3
    have HT0 := hidP ht0
    clear ht0
    go_wp2_with fail
    have hW3 : Below w2.heap.size w2 (w2.alloc (.cells #[.bool t0.s, .int .i64 t0.H.toInt, .int .i64 t0.L.toInt, .int .i64 ((wd t0.s : Int) - t0.n)] 37)) := (Below.refl _ _).alloc (Nat.le_refl _) _
    have hn3 := World.alloc_heap_new w2 (.cells #[.bool t0.s, .int .i64 t0.H.toInt, .int .i64 t0.L.toInt, .int .i64 ((wd t0.s : Int) - t0.n)] 37)
    have hs3 : (w2.alloc (.cells #[.bool t0.s, .int .i64 t0.H.toInt, .int .i64 t0.L.toInt, .int .i64 ((wd t0.s : Int) - t0.n)] 37)).heap.size = w2.heap.size + 1 := by simp
    generalize w2.alloc (.cells #[.bool t0.s, .int .i64 t0.H.toInt, .int .i64 t0.L.toInt, .int .i64 ((wd t0.s : Int) - t0.n)] 37) = W3 at *
    have HW3 := hidP hW3
    have HN3 := hidP hn3
    clear hW3 hn3 e0 e1 e2 e3
    go_loopw [8] (fun t8 wr => ∃ (i : Nat) (y : Sp), 1 ≤ i ∧ i ≤ m ∧ t8 = .int .i64 i ∧ lgs (ys.take i) = some y ∧ wr.heap[w2.heap.size]? = some (.cells #[.bool y.s, .int .i64 y.H.toInt, .int .i64 y.L.toInt, .int .i64 ((wd y.s : Int) - y.n)] 37) ∧ Below w2.heap.size w2 wr) (fun t8 _ => m - (intOf t8).toNat)
    case atStart => exact ⟨1, t0, Nat.le_refl _, hm2, rfl, by rw [lgs_take ys 0 t0 HT0.out]; rfl, HN3.out, HW3.out⟩
    case round =>
      obtain ⟨i, y, hi1, hi, rfl, hy, hh, hbr⟩ := hrel
      have HY := hidP hy
      have HH := hidP hh
      have HBr := hidP hbr
      obtain ⟨⟨v0, v1, v2, v3⟩, f0, f1, f2, f3⟩ := of4 hh
      have lzr := lt_heap hh
      clear hy hh hbr
      by_cases hlt : i < m
      · obtain ⟨q, o, t, heq, hq, ht, e0, e1, e2, e3⟩ := HR2.out.pre i (by rw [← HM.out]; exact hlt)
        cases heq
        have d0 := (HBr.out.cell hq).trans e0
        have d1 := (HBr.out.cell hq).trans e1
        have d2 := (HBr.out.cell hq).trans e2
        have d3 := (HBr.out.cell hq).trans e3
        have hqr : p0 < wr.heap.size := Nat.lt_of_lt_of_le hq HBr.out.size
        have HT := hidP ht
        have HN := hidP (lgs_take ys i t HT.out)
        have HE4 := hidP (set4 (a' := .bool t.s) (b' := .int .i64 t.H.toInt) (c' := .int .i64 t.L.toInt) (d' := .int .i64 ((wd t.s : Int) - t.n)) HH.out)
        have HBs := hidP ((((HBr.out.setCell (p := ⟨w2.heap.size, 0, none⟩) (Nat.le_refl _) (.bool t.s)).setCell (p := ⟨w2.heap.size, 1, none⟩) (Nat.le_refl _) (.int .i64 t.H.toInt)).setCell (p := ⟨w2.heap.size, 2, none⟩) (Nat.le_refl _) (.int .i64 t.L.toInt)).setCell (p := ⟨w2.heap.size, 3, none⟩) (Nat.le_refl _) (.int .i64 ((wd t.s : Int) - t.n)))
        clear e0 e1 e2 e3 ht
        cases hr : decide (((wd t.s : Int) - t.n) < ((wd y.s : Int) - y.n))
        · have HN2 : Hid (lgs (ys.take (i + 1)) = some y) := by
            refine hidP ?_
            rw [HN.out, HY.out]; show (if _ then _ else _) = _; rw [if_neg (of_decide_eq_false hr)]
          go_wp2_with fail
          go_region_with fail
          all_goals
            go_wp2_with fail
            go_roundw
            case rel => exact ⟨i + 1, y, by omega, by omega, by go_num, HN2.out, HH.out, HBr.out.drew⟩
            case measure => simp [intOf]; omega
        · have HN2 : Hid (lgs (ys.take (i + 1)) = some t) := by
            refine hidP ?_
            rw [HN.out, HY.out]; show (if _ then _ else _) = _; rw [if_pos (of_decide_eq_true hr)]
          go_wp2_with fail
          go_region_with fail
          all_goals
            go_wp2_with fail
            go_roundw
            case rel => exact ⟨i + 1, t, by omega, by omega, by go_num, HN2.out, HE4.out, HBs.out.drew⟩
            case measure => simp [intOf]; omega
      · have hin : i = m := by omega
        subst hin
        have HF : Hid (lgs ys = some y) := by have := HY.out; rw [HM.out, List.take_length] at this; exact hidP this
        have k1 := (HBr.out.block _ (lt_heap HK1.out)).trans HK1.out
        obtain ⟨_, g0, g1, g2, g3⟩ := of4 k1
        obtain ⟨⟨u0, u1, u2, u3⟩, _⟩ := of4 k1
        have lk := lt_heap k1
        have HZ := hidP (of4 (set4 (a' := .bool y.s) (b' := .int .i64 y.H.toInt) (c' := .int .i64 y.L.toInt) (d' := .int .i64 ((wd y.s : Int) - y.n)) k1)).1
        have HB9 := hidP (HB2.out.trans (HBr.out.mono HB2.out.size))
        clear k1
        go_wp2_with fail
        obtain ⟨z0, z1, z2, z3⟩ := HZ.out
        refine bodyPost_ret (v := .tuple #[.agg #[.bool y.s, .int .i64 y.H.toInt, .int .i64 y.L.toInt, .int .i64 ((wd y.s : Int) - y.n)], .bool true]) (by simp [results, Try.results30, go_sem, z0, z1, z2, z3]) rfl ⟨by rw [HF.out]; rfl, ?_⟩
        exact (((HB9.out.setCell (p := ⟨w.heap.size + 1, 0, none⟩) (Nat.le_succ _) _).setCell (p := ⟨w.heap.size + 1, 1, none⟩) (Nat.le_succ _) _).setCell (p := ⟨w.heap.size + 1, 2, none⟩) (Nat.le_succ _) _).setCell (p := ⟨w.heap.size + 1, 3, none⟩) (Nat.le_succ _) _

end Go.Proofs.Ytamocbkamjnonaa
