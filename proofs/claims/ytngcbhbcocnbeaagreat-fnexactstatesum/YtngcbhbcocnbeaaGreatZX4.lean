/-
  What putSum_both needs, part 4.
-/
import Derived.Test.YtngcbhbcocnbeaaGreatZX3
import Derived.Deep.RegionWith
import Derived.Deep.DeepCutAuto
namespace Go.Proofs.YtngcbhbcocnbeaaGreat
open Go.RowKit

/-- A block and what lies in its first cells. -/
structure Bo (x : World) (p : Nat) (vs : List Value) : Prop where
  cel : ∀ i v, vs[i]? = some v → x.cell? ⟨p, i, none⟩ = some v
  lt : p < x.heap.size
theorem Bo.later {x y : World} {p : Nat} {vs : List Value} (h : Bo x p vs) (k : Below x.heap.size x y) : Bo y p vs :=
  ⟨fun i v hv => (k.cell (p := ⟨p, i, none⟩) h.lt).trans (h.cel i v hv), Nat.lt_of_lt_of_le h.lt k.size⟩
theorem Bo.grown {x y : World} {p g : Nat} {vs : List Value} (h : Bo x p vs) (k : x.grownBy y (some g)) (hne : p ≠ g) : Bo y p vs :=
  ⟨fun i v hv => by
    have h1 := h.cel i v hv
    rw [World.cell?_of_block (w := x) (k.block p (World.block_lt_of_cell? x _ h1) (fun e => hne (by simpa using e)))]
    exact h1, Nat.lt_of_lt_of_le h.lt k.size⟩
theorem Bo.kpG {x y : World} {p g : Nat} {vs : List Value} (h : Bo x p vs) (k : KpG g x y) (hne : p ≠ g) (hs : x.heap.size ≤ y.heap.size) : Bo y p vs :=
  ⟨fun i v hv => k p i v hne (h.cel i v hv), Nat.lt_of_lt_of_le h.lt hs⟩
theorem Bo.new (x : World) (vs : List Value) (t : TypeId) : Bo (x.alloc (.cells vs.toArray t)) x.heap.size vs :=
  ⟨fun i v hv => by simp [go_sem, hv], by simp⟩
theorem Bo.ints {x : World} {p : Nat} {ns : List Int} (h : Bo x p (ns.map (Value.int .i64))) : ∀ j n, ns[j]? = some n → x.cell? ⟨p, j, none⟩ = some (.int .i64 n) := fun j n hj => h.cel j _ (by simp [hj])
theorem many_take {α : Type} (f : α → List Int) (xs : List α) (k : Nat) : (manyB f (xs.take k)).length ≤ (manyB f xs).length := by
  have e : manyB f xs = manyB f (xs.take k) ++ manyB f (xs.drop k) := by
    unfold manyB
    rw [← List.flatten_append, ← List.map_append, List.take_append_drop]
  rw [e, List.length_append]; omega
theorem pre_le {a b c : List Int} (h : a ++ b = c) : a.length ≤ c.length := by rw [← h, List.length_append]; omega

set_option maxRecDepth 20000 in
set_option maxHeartbeats 32000000 in
theorem sPutS_yes (ap : Option Addr) (np cp : Nat) (ab : Option Addr) (nb cb : Nat) (al : Option Addr) (nl cl : Nat) (T N : Int) (aS : Option Addr) (ns cs : Nat) (X C : Int) (ps : List Pl) (bs : List Bk) (ls : List Ls) (ss : List Ss) (w : World) (hnp : np = ps.length) (hnb : nb = bs.length) (hnl : nl = ls.length) (hns : ns = ss.length) (hP : RowG KPl w ap ps) (hK : RowG KBk w ab bs) (hL : RowG KLs w al ls) (hS : RowG KSs w aS ss) (ht : Bnd ps bs ls ss) (Zf : List Int) (hZf : (partsB ps bs ls T N ss X C).flatten = Zf) (hz : Zf.length ≤ 18000)
    (hr : ∀ W : World, Below w.heap.size w W → Calls Tryz.prog 19 #[.agg #[.slice ap np cp, .slice ab nb cb, .slice al nl cl, .int .i64 T, .int .i64 N, .slice aS ns cs, .int .i64 X, .int .i64 C]] W fun e w' => e = .returned (.bool true) ∧ Below W.heap.size W w') :
    Calls Tryz.prog 6 #[.agg #[.slice ap np cp, .slice ab nb cb, .slice al nl cl, .int .i64 T, .int .i64 N, .slice aS ns cs, .int .i64 X, .int .i64 C]] w fun e w' => ∃ g c, e = .returned (.slice (some ⟨g, 0, none⟩) Zf.length c) ∧ Own w' w.heap.size (.slice (some ⟨g, 0, none⟩) Zf.length c) Zf ∧ Below w.heap.size w w' := by
  have HR := hidP hr
  have HRp := hidP hP
  have HRb := hidP hK
  have HRl := hidP hL
  have HRs := hidP hS
  have HNp := hidP hnp
  have HNb := hidP hnb
  have HNl := hidP hnl
  have HNs := hidP hns
  have HT := hidP ht
  have bp : np ≤ 20 := by have := ht.p; omega
  have bb : nb ≤ 60 := by have := ht.b; omega
  have bl : nl ≤ 80 := by have := ht.l; omega
  have bs' : ns ≤ 12 := by have := ht.s; omega
  have HFin : Hid ((((((((numsB [C, (np : Int)]) ++ manyB poolB ps) ++ numB (u64 (nb : Int))) ++ manyB blockB bs) ++ numsB [T, N, (nl : Int)]) ++ manyB leaseB ls) ++ numsB [X, (ns : Int)]) ++ manyB sessB ss = Zf) := hidP (by
    rw [← hZf, hnp, hnb, hnl, hns]
    unfold partsB rowsB numsB
    simp only [List.map_cons, List.map_nil, List.flatten_cons, List.flatten_nil, List.append_nil, List.append_assoc])
  have HL7 := hidP (Nat.le_trans (pre_le HFin.out) hz)
  have HL8 : Hid (Zf.length ≤ 18000) := hidP hz
  clear hr hP hK hL hS hnp hnb hnl hns ht hZf hz
  go_enter Tryz.func6, Tryz.ntmps6
  go_wp2_with fail
  obtain ⟨x0, x1, x2, x3, x4, x5, x6, x7⟩ := bx8 w 48 (.slice ap np cp) (.slice ab nb cb) (.slice al nl cl) (.int .i64 T) (.int .i64 N) (.slice aS ns cs) (.int .i64 X) (.int .i64 C)
  have xB := hidP (alloc_below w (.cells #[.slice ap np cp, .slice ab nb cb, .slice al nl cl, .int .i64 T, .int .i64 N, .slice aS ns cs, .int .i64 X, .int .i64 C] 48))
  have xL : w.heap.size < (w.alloc (.cells #[.slice ap np cp, .slice ab nb cb, .slice al nl cl, .int .i64 T, .int .i64 N, .slice aS ns cs, .int .i64 X, .int .i64 C] 48)).heap.size := by simp
  generalize w.alloc (.cells #[.slice ap np cp, .slice ab nb cb, .slice al nl cl, .int .i64 T, .int .i64 N, .slice aS ns cs, .int .i64 X, .int .i64 C] 48) = W1 at *
  refine (HR.out _ xB.out).mono ?_
  rintro e W ⟨rfl, hb⟩
  have y0 := (hb.cell xL).trans x0
  have y1 := (hb.cell xL).trans x1
  have y2 := (hb.cell xL).trans x2
  have y3 := (hb.cell xL).trans x3
  have y4 := (hb.cell xL).trans x4
  have y5 := (hb.cell xL).trans x5
  have y6 := (hb.cell xL).trans x6
  have y7 := (hb.cell xL).trans x7
  have yL : w.heap.size < W.heap.size := Nat.lt_of_lt_of_le xL hb.size
  have HW := hidP (xB.out.trans (hb.mono xB.out.size))
  clear hb xB xL x0 x1 x2 x3 x4 x5 x6 x7 HR
  go_wp2_with fail
  have m1 := alloc_below W (.cells #[] 5)
  have m2 := alloc_below (W.alloc (.cells #[] 5)) (.cells #[.int .i64 C, .int .i64 (np : Int)] 3)
  have M := hidP (m1.trans (m2.mono m1.size))
  have oW := hidP ((own_nil W W.heap.size (Nat.le_refl _)).later m2)
  have iR := hidP (Bo.new (W.alloc (.cells #[] 5)) [.int .i64 C, .int .i64 (np : Int)] 3)
  have zW : (W.alloc (.cells #[] 5)).heap.size = W.heap.size + 1 := by simp
  rw [zW] at iR
  clear m1 m2 zW
  generalize (W.alloc (.cells #[] 5)).alloc (.cells #[.int .i64 C, .int .i64 (np : Int)] 3) = W2 at *
  refine (sNums_any W.heap.size (W.heap.size + 1) 2 2 W.heap.size 0 0 [] [C, (np : Int)] W2 M.out.size rfl (by omega) oW.out iR.out.lt (by omega) rfl (by omega) (Bo.ints (ns := [C, (np : Int)]) iR.out)).mono ?_
  rintro e u0 ⟨g0, c0, rfl, o0, hg0, b0⟩
  rw [List.nil_append] at *
  have O0 := hidP o0
  have U0 := hidP (M.out.trans b0)
  clear o0 b0 hg0 iR oW M
  generalize numsB [C, (np : Int)] = Y0 at *
  have HLnp : Hid ((Y0 ++ manyB poolB ps).length ≤ 18000) := hidP (by
    have h7 := HL7.out
    simp only [List.length_append] at h7 ⊢
    omega)
  go_wp2_with fail
  go_loopw [3, 4] (fun t3 ti wr => ∃ (k g' c' : Nat), k ≤ np ∧ ti = .int .i64 k ∧ t3 = .slice (some ⟨g', 0, none⟩) (Y0 ++ manyB poolB (ps.take k)).length c' ∧ Own wr W.heap.size (.slice (some ⟨g', 0, none⟩) (Y0 ++ manyB poolB (ps.take k)).length c') (Y0 ++ manyB poolB (ps.take k)) ∧ Below W.heap.size W wr) (fun _ ti _ => np - (intOf ti).toNat)
  case atStart => exact ⟨0, g0, c0, Nat.zero_le _, rfl, by simp [manyB], by simpa [manyB] using O0.out, U0.out⟩
  case round =>
    obtain ⟨k, g', c', hk, rfl, rfl, hown, hbel⟩ := hrel
    obtain ⟨vp, rfl⟩ : ∃ X, X = wr := ⟨_, rfl⟩
    have HOw := hidP hown
    have HBl := hidP hbel
    have sB : W.heap.size ≤ vp.heap.size := hbel.size
    have HBw := hidP (HW.out.trans (hbel.mono HW.out.size))
    have z0 := (hbel.cell yL).trans y0
    have z1 := (hbel.cell yL).trans y1
    have z2 := (hbel.cell yL).trans y2
    have z3 := (hbel.cell yL).trans y3
    have z4 := (hbel.cell yL).trans y4
    have z5 := (hbel.cell yL).trans y5
    have z6 := (hbel.cell yL).trans y6
    have z7 := (hbel.cell yL).trans y7
    have zL : w.heap.size < vp.heap.size := Nat.lt_of_lt_of_le yL hbel.size
    by_cases hlt : k < np
    · obtain ⟨p, o, q, rfl, hp, hq, c0, c1, c2, c3, c4⟩ := rowPl HRp.out k (by have := HNp.out; omega)
      have d0 := (HBw.out.cell hp).trans c0
      have d1 := (HBw.out.cell hp).trans c1
      have d2 := (HBw.out.cell hp).trans c2
      have d3 := (HBw.out.cell hp).trans c3
      have d4 := (HBw.out.cell hp).trans c4
      have hpB : p < W.heap.size := Nat.lt_trans hp yL
      have hpw : p < vp.heap.size := Nat.lt_of_lt_of_le hpB sB
      have k0 : (0 : Int) ≤ (k : Int) := by omega
      have k1 : (k : Int) < (np : Int) := by omega
      have HX : Hid ((((Y0 ++ manyB poolB (ps.take k)) ++ pfxB q.p) ++ numB (Go.Proofs.YtngcbhbcocnbeaaGreat.u64 q.n)) = Y0 ++ manyB poolB (ps.take (k + 1))) := hidP (by rw [manyB_at poolB ps k q hq]; unfold poolB; simp only [List.append_assoc])
      have hVl : (Y0 ++ manyB poolB (ps.take k)).length ≤ 18000 := by have h1 := HLnp.out; have h2 := many_take poolB ps k; rw [List.length_append] at h1 ⊢; omega
      have lz0 := pfxB_len q.p
      have HC0 := hidP (fun W => sPre8_any q.p.s q.p.H.toInt q.p.L.toInt q.p.b (pfxB q.p) rfl W)
      have lz1 := numB_ten _ (u64_lt q.n)
      have HC1 := hidP (sPutNum_any q.n)
      generalize pfxB q.p = Z0 at *
      generalize numB (Go.Proofs.YtngcbhbcocnbeaaGreat.u64 q.n) = Z1 at *
      generalize hRR : Y0 ++ manyB poolB (ps.take (k + 1)) = RR at *
      have HRR := hidP hRR
      clear hRR
      generalize Y0 ++ manyB poolB (ps.take k) = V at *
      clear hown hbel hq c0 c1 c2 c3 c4
      clear z1 z2 z3 z4 z5 z6 z7
      go_upto_region 7 with fail
      have HSx : Hid (∀ x, Below W.heap.size vp x → (x.cell? ⟨w.heap.size, 0, none⟩ = some (.slice (some ⟨p, o, none⟩) np cp) ∧ x.cell? ⟨p, o + k * 5, none⟩ = some (.bool q.p.s) ∧ x.cell? ⟨p, o + k * 5 + 1, none⟩ = some (.int .i64 q.p.H.toInt) ∧ x.cell? ⟨p, o + k * 5 + 2, none⟩ = some (.int .i64 q.p.L.toInt) ∧ x.cell? ⟨p, o + k * 5 + 3, none⟩ = some (.int .i64 q.p.b) ∧ x.cell? ⟨p, o + k * 5 + 4, none⟩ = some (.int .i64 q.n) ∧ Below W.heap.size vp x)) := hidP fun x h  =>
        ⟨(h.cell yL).trans z0, (h.cell hpB).trans d0, (h.cell hpB).trans d1, (h.cell hpB).trans d2, (h.cell hpB).trans d3, (h.cell hpB).trans d4, h⟩
      have kD := hidP (show Below W.heap.size vp vp.drew from (Below.refl _ _).drew)
      have OD := hidP (HOw.out.later (show Below vp.heap.size vp vp.drew from (Below.refl _ _).drew))
      have sD : W.heap.size ≤ vp.drew.heap.size := by simpa using sB
      refine wp_region_held_drew (S := (fun x => x.cell? ⟨w.heap.size, 0, none⟩ = some (.slice (some ⟨p, o, none⟩) np cp) ∧ x.cell? ⟨p, o + k * 5, none⟩ = some (.bool q.p.s) ∧ x.cell? ⟨p, o + k * 5 + 1, none⟩ = some (.int .i64 q.p.H.toInt) ∧ x.cell? ⟨p, o + k * 5 + 2, none⟩ = some (.int .i64 q.p.L.toInt) ∧ x.cell? ⟨p, o + k * 5 + 3, none⟩ = some (.int .i64 q.p.b) ∧ x.cell? ⟨p, o + k * 5 + 4, none⟩ = some (.int .i64 q.n) ∧ Below W.heap.size vp x)) (by kernel_rfl) ?_ (fun hHeld => ?_)
      · try dsimp only
        exact HSx.out _ kD.out
      generalize vp.drew = D at *
      refine tk 0 31 rfl ?_; simp only [pa]
      refine tk 1 32 rfl ?_; simp only [pa]
      refine tk 2 33 rfl ?_; simp only [pa]
      refine tk 3 34 rfl ?_; simp only [pa]
      refine tk 4 35 rfl ?_; simp only [pa]
      refine tk 5 36 rfl ?_; simp only [pa]
      refine tk 6 37 rfl ?_; simp only [pa]
      refine tk 7 38 rfl ?_; simp only [pa]
      refine tk 10 41 rfl ?_; simp only [pa]
      refine tk 11 42 rfl ?_; simp only [pa]
      refine tk 12 43 rfl ?_; simp only [pa]
      refine tk 13 44 rfl ?_; simp only [pa]
      refine tk 14 45 rfl ?_; simp only [pa]
      refine tk 15 46 rfl ?_; simp only [pa]
      refine tk 16 47 rfl ?_; simp only [pa]
      refine wpAnyH_ready (rs := [8]) (by kernel_rfl) (by simp) ?_
      refine AllReadyH.cons rfl (fun K hK => ?_) AllReadyH.nil
      go_simp
      go_wp2_with (first | (go_at_call 21; refine (HC0.out _).mono ?_; rintro e x1 ⟨g1, c1, rfl, o1, h1⟩))
      have kx1 := hidP (kD.out.trans (h1.mono sD))
      have Q1 := hidP o1
      have O1 := hidP (OD.out.later h1)
      have sx1 : W.heap.size ≤ x1.heap.size := Nat.le_trans sD h1.size
      refine hK.out _ _ ?_ (fun hHeld => ?_)
      · try dsimp only
        exact HSx.out _ kx1.out
      clear hK K
      clear o1 h1
      refine wpAnyH_ready (rs := [9]) (by kernel_rfl) (by simp) ?_
      refine AllReadyH.cons rfl (fun K hK => ?_) AllReadyH.nil
      refine step_app2 _ 40 rfl rfl (.tmp 31) (.tmp 39) 35 rfl (W.heap.size) g' (V.length) c' (V) (Z0) _ _ rfl rfl rfl O1.out rfl (src_own Q1.out) (by omega) sx1 ?_
      intro g2 c2 x2 o2 r2 h2
      have kx2 := hidP (below_app kx1.out O1.out sx1 r2)
      have O2 := hidP o2
      have sx2 : W.heap.size ≤ x2.heap.size := Nat.le_trans sx1 r2.size
      refine hK.out _ _ ?_ (fun hHeld => ?_)
      · try dsimp only
        exact HSx.out _ kx2.out
      clear hK K
      clear o2 r2 h2
      simp only [pa]
      rw [← List.length_append] at *
      have e2 : (V ++ Z0).length ≤ 20000 := by rw [List.length_append]; omega
      generalize hY2 : V ++ Z0 = Ya2 at *
      refine wpAnyH_ready (rs := [17]) (by kernel_rfl) (by simp) ?_
      refine AllReadyH.cons rfl (fun K hK => ?_) AllReadyH.nil
      go_simp
      go_wp2_with (first | (go_at_call 22; refine (HC1.out _).mono ?_; rintro e x3 ⟨a3, c3, rfl, o3, h3⟩))
      have kx3 := hidP (kx2.out.trans (h3.mono sx2))
      have Q3 := hidP o3
      have O3 := hidP (O2.out.later h3)
      have sx3 : W.heap.size ≤ x3.heap.size := Nat.le_trans sx2 h3.size
      refine hK.out _ _ ?_ (fun hHeld => ?_)
      · try dsimp only
        exact HSx.out _ kx3.out
      clear hK K
      clear o3 h3
      refine wpAnyH_ready (rs := [18]) (by kernel_rfl) (by simp) ?_
      refine AllReadyH.cons rfl (fun K hK => ?_) AllReadyH.nil
      refine step_app2 _ 49 rfl rfl (.tmp 40) (.tmp 48) 35 rfl (W.heap.size) g2 (Ya2.length) c2 (Ya2) (Z1) _ _ rfl rfl rfl O3.out rfl (src_own Q3.out) (by omega) sx3 ?_
      intro g4 c4 x4 o4 r4 h4
      have kx4 := hidP (below_app kx3.out O3.out sx3 r4)
      have O4 := hidP o4
      have sx4 : W.heap.size ≤ x4.heap.size := Nat.le_trans sx3 r4.size
      refine hK.out _ _ ?_ (fun hHeld => ?_)
      · try dsimp only
        exact HSx.out _ kx4.out
      clear hK K
      clear o4 r4 h4
      simp only [pa]
      rw [← List.length_append] at *
      have e4 : (Ya2 ++ Z1).length ≤ 21000 := by rw [List.length_append]; omega
      generalize hY4 : Ya2 ++ Z1 = Yb4 at *
      refine tk 19 3 rfl ?_; simp only [pa]
      refine wpAnyH_done (by kernel_rfl) ?_ _
      clear hHeld
      have HK := hidP (HBl.out.trans kx4.out)
      clear HSx
      go_wp2_with fail
      go_roundw
      case rel => exact ⟨k + 1, g4, c4, by omega, by go_num, by rw [HRR.out, ← HX.out], by rw [HRR.out, ← HX.out]; exact O4.out, HK.out⟩
      case measure => simp [intOf]; omega
    · have he := manyB_all poolB ps k (by have := HNp.out; omega)
      rw [he] at HOw ⊢
      have gk : decide ((k : Int) < (np : Int)) = false := decide_eq_false (by omega)
      clear hown hbel he HBw
      generalize Y0 ++ manyB poolB ps = V0 at *
      go_wp2_with fail
      have HPn := hidP (sPutNum_any (nb : Int))
      have lzn := numB_ten _ (u64_lt (nb : Int))
      generalize numB (Go.Proofs.YtngcbhbcocnbeaaGreat.u64 (nb : Int)) = Zn at *
      refine (HPn.out _).mono ?_
      rintro e x1 ⟨a1, c1, rfl, o1, b1⟩
      have Q1 := hidP o1
      have OO := hidP (HOw.out.later b1)
      have KK := hidP (HBl.out.trans (b1.mono sB))
      have s1 : W.heap.size ≤ x1.heap.size := Nat.le_trans sB b1.size
      clear o1 b1 HPn HBl HOw z0 z1 z2 z3 z4 z5 z6 z7
      have hvl := HLnp.out
      go_wp2_with (at_builtin; refine wpList_app _ rfl (.tmp 50) (.tmp 55) 35 rfl W.heap.size g' V0.length c' V0 Zn _ _ rfl rfl rfl OO.out rfl (src_own Q1.out) (by omega) s1 ?_; intro g1 c1' u1 hown hgr hat)
      have O1 := hidP hown
      have U1 := hidP (below_app KK.out OO.out s1 hgr)
      clear hown hgr hat Q1 OO KK hvl s1 lzn HLnp zL gk hlt sB
      rw [← List.length_append] at *
      generalize V0 ++ Zn = Y1 at *
      have HLnb : Hid ((Y1 ++ manyB blockB bs).length ≤ 18000) := hidP (by
        have h7 := HL7.out
        simp only [List.length_append] at h7 ⊢
        omega)
      go_wp2_with fail
      go_loopw [3, 5] (fun t3 ti wr => ∃ (k g' c' : Nat), k ≤ nb ∧ ti = .int .i64 k ∧ t3 = .slice (some ⟨g', 0, none⟩) (Y1 ++ manyB blockB (bs.take k)).length c' ∧ Own wr W.heap.size (.slice (some ⟨g', 0, none⟩) (Y1 ++ manyB blockB (bs.take k)).length c') (Y1 ++ manyB blockB (bs.take k)) ∧ Below W.heap.size W wr) (fun _ ti _ => nb - (intOf ti).toNat)
      case atStart => exact ⟨0, g1, c1', Nat.zero_le _, rfl, by simp [manyB], by simpa [manyB] using O1.out, U1.out⟩
      case round =>
        obtain ⟨k, g', c', hk, rfl, rfl, hown, hbel⟩ := hrel
        obtain ⟨vb, rfl⟩ : ∃ X, X = wr := ⟨_, rfl⟩
        have HOw := hidP hown
        have HBl := hidP hbel
        have sB : W.heap.size ≤ vb.heap.size := hbel.size
        have HBw := hidP (HW.out.trans (hbel.mono HW.out.size))
        have z0 := (hbel.cell yL).trans y0
        have z1 := (hbel.cell yL).trans y1
        have z2 := (hbel.cell yL).trans y2
        have z3 := (hbel.cell yL).trans y3
        have z4 := (hbel.cell yL).trans y4
        have z5 := (hbel.cell yL).trans y5
        have z6 := (hbel.cell yL).trans y6
        have z7 := (hbel.cell yL).trans y7
        have zL : w.heap.size < vb.heap.size := Nat.lt_of_lt_of_le yL hbel.size
        by_cases hlt : k < nb
        · obtain ⟨p, o, q, rfl, hp, hq, c0, c1, c2, c3, c4⟩ := rowBk HRb.out k (by have := HNb.out; omega)
          have d0 := (HBw.out.cell hp).trans c0
          have d1 := (HBw.out.cell hp).trans c1
          have d2 := (HBw.out.cell hp).trans c2
          have d3 := (HBw.out.cell hp).trans c3
          have d4 := (HBw.out.cell hp).trans c4
          have hpB : p < W.heap.size := Nat.lt_trans hp yL
          have hpw : p < vb.heap.size := Nat.lt_of_lt_of_le hpB sB
          have k0 : (0 : Int) ≤ (k : Int) := by omega
          have k1 : (k : Int) < (nb : Int) := by omega
          have HX : Hid ((((Y1 ++ manyB blockB (bs.take k)) ++ pfxB q.p) ++ txtB q.t) = Y1 ++ manyB blockB (bs.take (k + 1))) := hidP (by rw [manyB_at blockB bs k q hq]; unfold blockB; simp only [List.append_assoc])
          have hVl : (Y1 ++ manyB blockB (bs.take k)).length ≤ 18000 := by have h1 := HLnb.out; have h2 := many_take blockB bs k; rw [List.length_append] at h1 ⊢; omega
          have ht : q.t.size ≤ 200 := by have := HT.out.tb q (List.mem_of_getElem? hq); omega
          have lz0 := pfxB_len q.p
          have HC0 := hidP (fun W => sPre8_any q.p.s q.p.H.toInt q.p.L.toInt q.p.b (pfxB q.p) rfl W)
          have lz1 : (txtB q.t).length ≤ 210 := by have := txtB_len q.t; omega
          have HC1 := hidP (fun W => sPutText_any q.t W (by omega))
          generalize pfxB q.p = Z0 at *
          generalize txtB q.t = Z1 at *
          generalize hRR : Y1 ++ manyB blockB (bs.take (k + 1)) = RR at *
          have HRR := hidP hRR
          clear hRR
          generalize Y1 ++ manyB blockB (bs.take k) = V at *
          clear hown hbel hq c0 c1 c2 c3 c4
          clear z0 z2 z3 z4 z5 z6 z7
          go_upto_region 12 with fail
          have HSx : Hid (∀ x, Below W.heap.size vb x → (x.cell? ⟨w.heap.size, 1, none⟩ = some (.slice (some ⟨p, o, none⟩) nb cb) ∧ x.cell? ⟨p, o + k * 5, none⟩ = some (.bool q.p.s) ∧ x.cell? ⟨p, o + k * 5 + 1, none⟩ = some (.int .i64 q.p.H.toInt) ∧ x.cell? ⟨p, o + k * 5 + 2, none⟩ = some (.int .i64 q.p.L.toInt) ∧ x.cell? ⟨p, o + k * 5 + 3, none⟩ = some (.int .i64 q.p.b) ∧ x.cell? ⟨p, o + k * 5 + 4, none⟩ = some (.string q.t) ∧ Below W.heap.size vb x)) := hidP fun x h  =>
            ⟨(h.cell yL).trans z1, (h.cell hpB).trans d0, (h.cell hpB).trans d1, (h.cell hpB).trans d2, (h.cell hpB).trans d3, (h.cell hpB).trans d4, h⟩
          have kD := hidP (show Below W.heap.size vb vb.drew from (Below.refl _ _).drew)
          have OD := hidP (HOw.out.later (show Below vb.heap.size vb vb.drew from (Below.refl _ _).drew))
          have sD : W.heap.size ≤ vb.drew.heap.size := by simpa using sB
          refine wp_region_held_drew (S := (fun x => x.cell? ⟨w.heap.size, 1, none⟩ = some (.slice (some ⟨p, o, none⟩) nb cb) ∧ x.cell? ⟨p, o + k * 5, none⟩ = some (.bool q.p.s) ∧ x.cell? ⟨p, o + k * 5 + 1, none⟩ = some (.int .i64 q.p.H.toInt) ∧ x.cell? ⟨p, o + k * 5 + 2, none⟩ = some (.int .i64 q.p.L.toInt) ∧ x.cell? ⟨p, o + k * 5 + 3, none⟩ = some (.int .i64 q.p.b) ∧ x.cell? ⟨p, o + k * 5 + 4, none⟩ = some (.string q.t) ∧ Below W.heap.size vb x)) (by kernel_rfl) ?_ (fun hHeld => ?_)
          · try dsimp only
            exact HSx.out _ kD.out
          generalize vb.drew = D at *
          refine tk 0 65 rfl ?_; simp only [pa]
          refine tk 1 66 rfl ?_; simp only [pa]
          refine tk 2 67 rfl ?_; simp only [pa]
          refine tk 3 68 rfl ?_; simp only [pa]
          refine tk 4 69 rfl ?_; simp only [pa]
          refine tk 5 70 rfl ?_; simp only [pa]
          refine tk 6 71 rfl ?_; simp only [pa]
          refine tk 7 72 rfl ?_; simp only [pa]
          refine tk 10 75 rfl ?_; simp only [pa]
          refine tk 11 76 rfl ?_; simp only [pa]
          refine tk 12 77 rfl ?_; simp only [pa]
          refine tk 13 78 rfl ?_; simp only [pa]
          refine tk 14 79 rfl ?_; simp only [pa]
          refine tk 15 80 rfl ?_; simp only [pa]
          refine tk 16 81 rfl ?_; simp only [pa]
          refine wpAnyH_ready (rs := [8]) (by kernel_rfl) (by simp) ?_
          refine AllReadyH.cons rfl (fun K hK => ?_) AllReadyH.nil
          go_simp
          go_wp2_with (first | (go_at_call 21; refine (HC0.out _).mono ?_; rintro e x1 ⟨g1, c1, rfl, o1, h1⟩))
          have kx1 := hidP (kD.out.trans (h1.mono sD))
          have Q1 := hidP o1
          have O1 := hidP (OD.out.later h1)
          have sx1 : W.heap.size ≤ x1.heap.size := Nat.le_trans sD h1.size
          refine hK.out _ _ ?_ (fun hHeld => ?_)
          · try dsimp only
            exact HSx.out _ kx1.out
          clear hK K
          clear o1 h1
          refine wpAnyH_ready (rs := [9]) (by kernel_rfl) (by simp) ?_
          refine AllReadyH.cons rfl (fun K hK => ?_) AllReadyH.nil
          refine step_app2 _ 74 rfl rfl (.tmp 65) (.tmp 73) 35 rfl (W.heap.size) g' (V.length) c' (V) (Z0) _ _ rfl rfl rfl O1.out rfl (src_own Q1.out) (by omega) sx1 ?_
          intro g2 c2 x2 o2 r2 h2
          have kx2 := hidP (below_app kx1.out O1.out sx1 r2)
          have O2 := hidP o2
          have sx2 : W.heap.size ≤ x2.heap.size := Nat.le_trans sx1 r2.size
          refine hK.out _ _ ?_ (fun hHeld => ?_)
          · try dsimp only
            exact HSx.out _ kx2.out
          clear hK K
          clear o2 r2 h2
          simp only [pa]
          rw [← List.length_append] at *
          have e2 : (V ++ Z0).length ≤ 20000 := by rw [List.length_append]; omega
          generalize hY2 : V ++ Z0 = Ya2 at *
          refine wpAnyH_ready (rs := [17]) (by kernel_rfl) (by simp) ?_
          refine AllReadyH.cons rfl (fun K hK => ?_) AllReadyH.nil
          go_simp
          go_wp2_with (first | (go_at_call 23; refine (HC1.out _).mono ?_; rintro e x3 ⟨a3, c3, rfl, o3, h3⟩))
          have kx3 := hidP (kx2.out.trans (h3.mono sx2))
          have Q3 := hidP o3
          have O3 := hidP (O2.out.later h3)
          have sx3 : W.heap.size ≤ x3.heap.size := Nat.le_trans sx2 h3.size
          refine hK.out _ _ ?_ (fun hHeld => ?_)
          · try dsimp only
            exact HSx.out _ kx3.out
          clear hK K
          clear o3 h3
          refine wpAnyH_ready (rs := [18]) (by kernel_rfl) (by simp) ?_
          refine AllReadyH.cons rfl (fun K hK => ?_) AllReadyH.nil
          refine step_app2 _ 83 rfl rfl (.tmp 74) (.tmp 82) 35 rfl (W.heap.size) g2 (Ya2.length) c2 (Ya2) (Z1) _ _ rfl rfl rfl O3.out rfl (src_own Q3.out) (by omega) sx3 ?_
          intro g4 c4 x4 o4 r4 h4
          have kx4 := hidP (below_app kx3.out O3.out sx3 r4)
          have O4 := hidP o4
          have sx4 : W.heap.size ≤ x4.heap.size := Nat.le_trans sx3 r4.size
          refine hK.out _ _ ?_ (fun hHeld => ?_)
          · try dsimp only
            exact HSx.out _ kx4.out
          clear hK K
          clear o4 r4 h4
          simp only [pa]
          rw [← List.length_append] at *
          have e4 : (Ya2 ++ Z1).length ≤ 21000 := by rw [List.length_append]; omega
          generalize hY4 : Ya2 ++ Z1 = Yb4 at *
          refine tk 19 3 rfl ?_; simp only [pa]
          refine wpAnyH_done (by kernel_rfl) ?_ _
          clear hHeld
          have HK := hidP (HBl.out.trans kx4.out)
          clear HSx
          go_wp2_with fail
          go_roundw
          case rel => exact ⟨k + 1, g4, c4, by omega, by go_num, by rw [HRR.out, ← HX.out], by rw [HRR.out, ← HX.out]; exact O4.out, HK.out⟩
          case measure => simp [intOf]; omega
        · have he := manyB_all blockB bs k (by have := HNb.out; omega)
          rw [he] at HOw ⊢
          have gk : decide ((k : Int) < (nb : Int)) = false := decide_eq_false (by omega)
          clear hown hbel he HBw
          generalize Y1 ++ manyB blockB bs = V1 at *
          go_wp2_with fail
          have mB := alloc_below vb (.cells #[.int .i64 T, .int .i64 N, .int .i64 (nl : Int)] 3)
          have iR := hidP (Bo.new vb [.int .i64 T, .int .i64 N, .int .i64 (nl : Int)] 3)
          have nX : vb.heap.size ≠ g' := by have := (HOw.out.lt g' rfl).2; omega
          have OO := hidP (HOw.out.later mB)
          have KK := hidP (HBl.out.trans (mB.mono sB))
          have s1 : W.heap.size ≤ (vb.alloc (.cells #[.int .i64 T, .int .i64 N, .int .i64 (nl : Int)] 3)).heap.size := Nat.le_trans sB mB.size
          clear mB HBl HOw z0 z1 z2 z3 z4 z5 z6 z7
          generalize vb.alloc (.cells #[.int .i64 T, .int .i64 N, .int .i64 (nl : Int)] 3) = X1 at *
          have hvl := HLnb.out
          refine (sNums_any W.heap.size vb.heap.size 3 3 g' V1.length c' V1 [T, N, (nl : Int)] X1 s1 rfl (by omega) OO.out iR.out.lt nX rfl (by omega) (Bo.ints (ns := [T, N, (nl : Int)]) iR.out)).mono ?_
          rintro e u2 ⟨g2, c2, rfl, o1, hg1, b1⟩
          have O2 := hidP o1
          have U2 := hidP (KK.out.trans b1)
          clear o1 b1 hg1 iR OO KK hvl s1 nX HLnb zL gk hlt sB
          generalize V1 ++ numsB [T, N, (nl : Int)] = Y2 at *
          have HLnl : Hid ((Y2 ++ manyB leaseB ls).length ≤ 18000) := hidP (by
            have h7 := HL7.out
            simp only [List.length_append] at h7 ⊢
            omega)
          go_wp2_with fail
          go_loopw [3, 6] (fun t3 ti wr => ∃ (k g' c' : Nat), k ≤ nl ∧ ti = .int .i64 k ∧ t3 = .slice (some ⟨g', 0, none⟩) (Y2 ++ manyB leaseB (ls.take k)).length c' ∧ Own wr W.heap.size (.slice (some ⟨g', 0, none⟩) (Y2 ++ manyB leaseB (ls.take k)).length c') (Y2 ++ manyB leaseB (ls.take k)) ∧ Below W.heap.size W wr) (fun _ ti _ => nl - (intOf ti).toNat)
          case atStart => exact ⟨0, g2, c2, Nat.zero_le _, rfl, by simp [manyB], by simpa [manyB] using O2.out, U2.out⟩
          case round =>
            obtain ⟨k, g', c', hk, rfl, rfl, hown, hbel⟩ := hrel
            obtain ⟨vl, rfl⟩ : ∃ X, X = wr := ⟨_, rfl⟩
            have HOw := hidP hown
            have HBl := hidP hbel
            have sB : W.heap.size ≤ vl.heap.size := hbel.size
            have HBw := hidP (HW.out.trans (hbel.mono HW.out.size))
            have z0 := (hbel.cell yL).trans y0
            have z1 := (hbel.cell yL).trans y1
            have z2 := (hbel.cell yL).trans y2
            have z3 := (hbel.cell yL).trans y3
            have z4 := (hbel.cell yL).trans y4
            have z5 := (hbel.cell yL).trans y5
            have z6 := (hbel.cell yL).trans y6
            have z7 := (hbel.cell yL).trans y7
            have zL : w.heap.size < vl.heap.size := Nat.lt_of_lt_of_le yL hbel.size
            by_cases hlt : k < nl
            · obtain ⟨p, o, q, rfl, hp, hq, c0, c1, c2, c3, c4, c5⟩ := rowLs HRl.out k (by have := HNl.out; omega)
              have d0 := (HBw.out.cell hp).trans c0
              have d1 := (HBw.out.cell hp).trans c1
              have d2 := (HBw.out.cell hp).trans c2
              have d3 := (HBw.out.cell hp).trans c3
              have d4 := (HBw.out.cell hp).trans c4
              have d5 := (HBw.out.cell hp).trans c5
              have hpB : p < W.heap.size := Nat.lt_trans hp yL
              have hpw : p < vl.heap.size := Nat.lt_of_lt_of_le hpB sB
              have k0 : (0 : Int) ≤ (k : Int) := by omega
              have k1 : (k : Int) < (nl : Int) := by omega
              have HX : Hid (((((Y2 ++ manyB leaseB (ls.take k)) ++ adrB q.a.s q.a.H.toInt q.a.L.toInt) ++ txtB q.t) ++ numsB [q.k, q.u]) = Y2 ++ manyB leaseB (ls.take (k + 1))) := hidP (by rw [manyB_at leaseB ls k q hq]; unfold leaseB; simp only [List.flatten_cons, List.flatten_nil, List.append_nil, List.append_assoc])
              have hVl : (Y2 ++ manyB leaseB (ls.take k)).length ≤ 18000 := by have h1 := HLnl.out; have h2 := many_take leaseB ls k; rw [List.length_append] at h1 ⊢; omega
              have ht : q.t.size ≤ 200 := by have := HT.out.tl q (List.mem_of_getElem? hq); omega
              have lz0 := adrB_len q.a.s q.a.H.toInt q.a.L.toInt
              have HC0 := hidP (sPutAddr_any q.a.s q.a.H.toInt q.a.L.toInt)
              have lz1 : (txtB q.t).length ≤ 210 := by have := txtB_len q.t; omega
              have HC1 := hidP (fun W => sPutText_any q.t W (by omega))
              generalize adrB q.a.s q.a.H.toInt q.a.L.toInt = Z0 at *
              generalize txtB q.t = Z1 at *
              generalize hRR : Y2 ++ manyB leaseB (ls.take (k + 1)) = RR at *
              have HRR := hidP hRR
              clear hRR
              generalize Y2 ++ manyB leaseB (ls.take k) = V at *
              clear hown hbel hq c0 c1 c2 c3 c4 c5
              clear z0 z1 z3 z4 z5 z6 z7
              go_upto_region 18 with fail
              have mB := alloc_below vl (.cells #[.bool q.a.s, .int .i64 q.a.H.toInt, .int .i64 q.a.L.toInt, .string q.t, .int .i64 q.k, .int .i64 q.u] 74)
              have bX := hidP (Bo.new vl [.bool q.a.s, .int .i64 q.a.H.toInt, .int .i64 q.a.L.toInt, .string q.t, .int .i64 q.k, .int .i64 q.u] 74)
              have nX : Hid (vl.heap.size ≠ g') := hidP (by have := (HOw.out.lt g' rfl).2; omega)
              have HOv := hidP (HOw.out.later mB)
              have HBv := hidP (HBl.out.trans (mB.mono sB))
              have sB2 : W.heap.size ≤ (vl.alloc (.cells #[.bool q.a.s, .int .i64 q.a.H.toInt, .int .i64 q.a.L.toInt, .string q.t, .int .i64 q.k, .int .i64 q.u] 74)).heap.size := Nat.le_trans sB mB.size
              have zz : Hid (vl.heap.size < (vl.alloc (.cells #[.bool q.a.s, .int .i64 q.a.H.toInt, .int .i64 q.a.L.toInt, .string q.t, .int .i64 q.k, .int .i64 q.u] 74)).heap.size) := hidP (by simp)
              clear mB HBl HOw sB
              generalize vl.alloc (.cells #[.bool q.a.s, .int .i64 q.a.H.toInt, .int .i64 q.a.L.toInt, .string q.t, .int .i64 q.k, .int .i64 q.u] 74) = Vl at *
              have sB := sB2
              have HBl := HBv
              clear sB2 HBv
              have HSx : Hid (∀ x, Below W.heap.size Vl x → Bo x (vl.heap.size) [.bool q.a.s, .int .i64 q.a.H.toInt, .int .i64 q.a.L.toInt, .string q.t, .int .i64 q.k, .int .i64 q.u] → (x.cell? ⟨vl.heap.size, 0, none⟩ = some (.bool q.a.s) ∧ x.cell? ⟨vl.heap.size, 1, none⟩ = some (.int .i64 q.a.H.toInt) ∧ x.cell? ⟨vl.heap.size, 2, none⟩ = some (.int .i64 q.a.L.toInt) ∧ x.cell? ⟨vl.heap.size, 3, none⟩ = some (.string q.t) ∧ x.cell? ⟨vl.heap.size, 4, none⟩ = some (.int .i64 q.k) ∧ x.cell? ⟨vl.heap.size, 5, none⟩ = some (.int .i64 q.u) ∧ Below W.heap.size Vl x)) := hidP fun x h q0 =>
                ⟨q0.cel 0 _ rfl, q0.cel 1 _ rfl, q0.cel 2 _ rfl, q0.cel 3 _ rfl, q0.cel 4 _ rfl, q0.cel 5 _ rfl, h⟩
              have kD := hidP (show Below W.heap.size Vl Vl.drew from (Below.refl _ _).drew)
              have OD := hidP (HOv.out.later (show Below Vl.heap.size Vl Vl.drew from (Below.refl _ _).drew))
              have bD0 := hidP (bX.out.later (show Below Vl.heap.size Vl Vl.drew from (Below.refl _ _).drew))
              have sD : W.heap.size ≤ Vl.drew.heap.size := by simpa using sB
              refine wp_region_held_drew (S := (fun x => x.cell? ⟨vl.heap.size, 0, none⟩ = some (.bool q.a.s) ∧ x.cell? ⟨vl.heap.size, 1, none⟩ = some (.int .i64 q.a.H.toInt) ∧ x.cell? ⟨vl.heap.size, 2, none⟩ = some (.int .i64 q.a.L.toInt) ∧ x.cell? ⟨vl.heap.size, 3, none⟩ = some (.string q.t) ∧ x.cell? ⟨vl.heap.size, 4, none⟩ = some (.int .i64 q.k) ∧ x.cell? ⟨vl.heap.size, 5, none⟩ = some (.int .i64 q.u) ∧ Below W.heap.size Vl x)) (by kernel_rfl) ?_ (fun hHeld => ?_)
              · try dsimp only
                exact HSx.out _ kD.out bD0.out
              generalize Vl.drew = D at *
              refine tk 0 111 rfl ?_; simp only [pa]
              refine tk 1 112 rfl ?_; simp only [pa]
              refine tk 2 113 rfl ?_; simp only [pa]
              refine tk 5 116 rfl ?_; simp only [pa]
              refine tk 6 117 rfl ?_; simp only [pa]
              refine tk 9 120 rfl ?_; simp only [pa]
              refine tk 10 121 rfl ?_; simp only [pa]
              refine tk 11 122 rfl ?_; simp only [pa]
              refine tk 12 123 rfl ?_; simp only [pa]
              refine wpAnyH_ready (rs := [3, 13]) (by kernel_rfl) (by simp) ?_
              refine AllReadyH.cons rfl (fun K hK => ?_) (AllReadyH.cons rfl (fun K hK => ?_) AllReadyH.nil)
              · go_simp
                go_wp2_with (first | (go_at_call 24; refine (HC0.out _).mono ?_; rintro e x1 ⟨g1, c1, rfl, o1, h1⟩))
                have kx1 := hidP (kD.out.trans (h1.mono sD))
                have Q1 := hidP o1
                have O1 := hidP (OD.out.later h1)
                have bo0_1 := hidP (bD0.out.later h1)
                have sx1 : W.heap.size ≤ x1.heap.size := Nat.le_trans sD h1.size
                refine hK.out _ _ ?_ (fun hHeld => ?_)
                · try dsimp only
                  exact HSx.out _ kx1.out bo0_1.out
                clear hK K
                clear o1 h1
                refine wpAnyH_ready (rs := [4, 13]) (by kernel_rfl) (by simp) ?_
                refine AllReadyH.cons rfl (fun K hK => ?_) (AllReadyH.cons rfl (fun K hK => ?_) AllReadyH.nil)
                · refine step_app2 _ 115 rfl rfl (.tmp 111) (.tmp 114) 35 rfl (W.heap.size) g' (V.length) c' (V) (Z0) _ _ rfl rfl rfl O1.out rfl (src_own Q1.out) (by omega) sx1 ?_
                  intro g2 c2 x2 o2 r2 h2
                  have kx2 := hidP (below_app kx1.out O1.out sx1 r2)
                  have O2 := hidP o2
                  have bo0_2 := hidP (bo0_1.out.grown r2 nX.out)
                  have m2 : Hid (vl.heap.size ≠ g2) := hidP (by have hq5 := nX.out; have hq6 := bo0_1.out.lt; rcases h2 with hq7 | hq7 <;> omega)
                  have sx2 : W.heap.size ≤ x2.heap.size := Nat.le_trans sx1 r2.size
                  refine hK.out _ _ ?_ (fun hHeld => ?_)
                  · try dsimp only
                    exact HSx.out _ kx2.out bo0_2.out
                  clear hK K
                  clear o2 r2 h2
                  simp only [pa]
                  rw [← List.length_append] at *
                  have e2 : (V ++ Z0).length ≤ 20000 := by rw [List.length_append]; omega
                  generalize hY2 : V ++ Z0 = Ya2 at *
                  refine wpAnyH_ready (rs := [7, 13]) (by kernel_rfl) (by simp) ?_
                  refine AllReadyH.cons rfl (fun K hK => ?_) (AllReadyH.cons rfl (fun K hK => ?_) AllReadyH.nil)
                  · go_simp
                    go_wp2_with (first | (go_at_call 23; refine (HC1.out _).mono ?_; rintro e x3 ⟨a3, c3, rfl, o3, h3⟩))
                    have kx3 := hidP (kx2.out.trans (h3.mono sx2))
                    have Q3 := hidP o3
                    have O3 := hidP (O2.out.later h3)
                    have bo0_3 := hidP (bo0_2.out.later h3)
                    have sx3 : W.heap.size ≤ x3.heap.size := Nat.le_trans sx2 h3.size
                    refine hK.out _ _ ?_ (fun hHeld => ?_)
                    · try dsimp only
                      exact HSx.out _ kx3.out bo0_3.out
                    clear hK K
                    clear o3 h3
                    refine wpAnyH_ready (rs := [8, 13]) (by kernel_rfl) (by simp) ?_
                    refine AllReadyH.cons rfl (fun K hK => ?_) (AllReadyH.cons rfl (fun K hK => ?_) AllReadyH.nil)
                    · refine step_app2 _ 119 rfl rfl (.tmp 115) (.tmp 118) 35 rfl (W.heap.size) g2 (Ya2.length) c2 (Ya2) (Z1) _ _ rfl rfl rfl O3.out rfl (src_own Q3.out) (by omega) sx3 ?_
                      intro g4 c4 x4 o4 r4 h4
                      have kx4 := hidP (below_app kx3.out O3.out sx3 r4)
                      have O4 := hidP o4
                      have bo0_4 := hidP (bo0_3.out.grown r4 m2.out)
                      have m4 : Hid (vl.heap.size ≠ g4) := hidP (by have hq5 := m2.out; have hq6 := bo0_3.out.lt; rcases h4 with hq7 | hq7 <;> omega)
                      have sx4 : W.heap.size ≤ x4.heap.size := Nat.le_trans sx3 r4.size
                      refine hK.out _ _ ?_ (fun hHeld => ?_)
                      · try dsimp only
                        exact HSx.out _ kx4.out bo0_4.out
                      clear hK K
                      clear o4 r4 h4
                      simp only [pa]
                      rw [← List.length_append] at *
                      have e4 : (Ya2 ++ Z1).length ≤ 21000 := by rw [List.length_append]; omega
                      generalize hY4 : Ya2 ++ Z1 = Yb4 at *
                      refine wpAnyH_ready (rs := [13]) (by kernel_rfl) (by simp) ?_
                      refine AllReadyH.cons rfl (fun K hK => ?_) AllReadyH.nil
                      go_simp
                      have h5 := alloc_below x4 (.cells #[.int .i64 q.k, .int .i64 q.u] 3)
                      have I5 := hidP (Bo.new x4 [.int .i64 q.k, .int .i64 q.u] 3)
                      have n5 : Hid (x4.heap.size ≠ g4) := hidP (by have := (O4.out.lt g4 rfl).2; omega)
                      have kx5 := hidP (kx4.out.trans (h5.mono sx4))
                      have O5 := hidP (O4.out.later h5)
                      have bo0_5 := hidP (bo0_4.out.later h5)
                      have sx5 : W.heap.size ≤ (x4.alloc (.cells #[.int .i64 q.k, .int .i64 q.u] 3)).heap.size := Nat.le_trans sx4 h5.size
                      have z5 : Hid (x4.heap.size < (x4.alloc (.cells #[.int .i64 q.k, .int .i64 q.u] 3)).heap.size) := hidP (by simp)
                      generalize x4.alloc (.cells #[.int .i64 q.k, .int .i64 q.u] 3) = x5 at *
                      refine hK.out _ _ ?_ (fun hHeld => ?_)
                      · try dsimp only
                        exact HSx.out _ kx5.out bo0_5.out
                      clear hK K
                      clear h5
                      refine wpAnyH_ready (rs := [14]) (by kernel_rfl) (by simp) ?_
                      refine AllReadyH.cons rfl (fun K hK => ?_) AllReadyH.nil
                      go_simp
                      go_wp2_with (first | (go_at_call 20; refine (sNumsK_any (W.heap.size) (x4.heap.size) 2 2 g4 Yb4.length c4 Yb4 [q.k, q.u] _ sx5 rfl (by omega) O5.out I5.out.lt n5.out rfl (by omega) (Bo.ints (ns := [q.k, q.u]) I5.out)).mono ?_; rintro e x6 ⟨g6, c6, rfl, o6, h6, p6, r6⟩))
                      have kx6 := hidP (kx5.out.trans r6)
                      have O6 := hidP o6
                      have sx6 : W.heap.size ≤ x6.heap.size := Nat.le_trans sx5 r6.size
                      have bo0_6 := hidP (bo0_5.out.kpG p6 m4.out r6.size)
                      have m6 : Hid (vl.heap.size ≠ g6) := hidP (by have hq5 := m4.out; have hq6 := bo0_5.out.lt; rcases h6 with hq7 | hq7 <;> omega)
                      refine hK.out _ _ ?_ (fun hHeld => ?_)
                      · try dsimp only
                        exact HSx.out _ kx6.out bo0_6.out
                      clear hK K
                      clear o6 r6 h6 p6
                      try simp only [pa]
                      rw [← List.length_append] at *
                      have e6 : (Yb4 ++ numsB [q.k, q.u]).length ≤ 22000 := by rw [List.length_append]; have := numsB_two q.k q.u; omega
                      generalize hY6 : Yb4 ++ numsB [q.k, q.u] = Yc6 at *
                      refine tk 15 3 rfl ?_; simp only [pa]
                      refine wpAnyH_done (by kernel_rfl) ?_ _
                      clear hHeld
                      have HK := hidP (HBl.out.trans kx6.out)
                      clear HSx
                      go_wp2_with fail
                      go_roundw
                      case rel => exact ⟨k + 1, g6, c6, by omega, by go_num, by rw [HRR.out, ← HX.out], by rw [HRR.out, ← HX.out]; exact O6.out, HK.out⟩
                      case measure => simp [intOf]; omega
                    · go_simp
                      have h7 := alloc_below x3 (.cells #[.int .i64 q.k, .int .i64 q.u] 3)
                      have I7 := hidP (Bo.new x3 [.int .i64 q.k, .int .i64 q.u] 3)
                      have n7 : Hid (x3.heap.size ≠ g2) := hidP (by have := (O3.out.lt g2 rfl).2; omega)
                      have kx7 := hidP (kx3.out.trans (h7.mono sx3))
                      have O7 := hidP (O3.out.later h7)
                      have Q7 := hidP (Q3.out.later h7)
                      have bo0_7 := hidP (bo0_3.out.later h7)
                      have sx7 : W.heap.size ≤ (x3.alloc (.cells #[.int .i64 q.k, .int .i64 q.u] 3)).heap.size := Nat.le_trans sx3 h7.size
                      have z7 : Hid (x3.heap.size < (x3.alloc (.cells #[.int .i64 q.k, .int .i64 q.u] 3)).heap.size) := hidP (by simp)
                      generalize x3.alloc (.cells #[.int .i64 q.k, .int .i64 q.u] 3) = x7 at *
                      refine hK.out _ _ ?_ (fun hHeld => ?_)
                      · try dsimp only
                        exact HSx.out _ kx7.out bo0_7.out
                      clear hK K
                      clear h7
                      refine wpAnyH_ready (rs := [8]) (by kernel_rfl) (by simp) ?_
                      refine AllReadyH.cons rfl (fun K hK => ?_) AllReadyH.nil
                      refine step_app2 _ 119 rfl rfl (.tmp 115) (.tmp 118) 35 rfl (W.heap.size) g2 (Ya2.length) c2 (Ya2) (Z1) _ _ rfl rfl rfl O7.out rfl (src_own Q7.out) (by omega) sx7 ?_
                      intro g8 c8 x8 o8 r8 h8
                      have kx8 := hidP (below_app kx7.out O7.out sx7 r8)
                      have O8 := hidP o8
                      have bo0_8 := hidP (bo0_7.out.grown r8 m2.out)
                      have I8 := hidP (I7.out.grown r8 n7.out)
                      have n8 : Hid (x3.heap.size ≠ g8) := hidP (by have hq5 := n7.out; have hq6 := I7.out.lt; rcases h8 with hq7 | hq7 <;> omega)
                      have m8 : Hid (vl.heap.size ≠ g8) := hidP (by have hq5 := m2.out; have hq6 := bo0_7.out.lt; rcases h8 with hq7 | hq7 <;> omega)
                      have sx8 : W.heap.size ≤ x8.heap.size := Nat.le_trans sx7 r8.size
                      refine hK.out _ _ ?_ (fun hHeld => ?_)
                      · try dsimp only
                        exact HSx.out _ kx8.out bo0_8.out
                      clear hK K
                      clear o8 r8 h8
                      simp only [pa]
                      rw [← List.length_append] at *
                      have e8 : (Ya2 ++ Z1).length ≤ 21000 := by rw [List.length_append]; omega
                      generalize hY8 : Ya2 ++ Z1 = Yb8 at *
                      refine wpAnyH_ready (rs := [14]) (by kernel_rfl) (by simp) ?_
                      refine AllReadyH.cons rfl (fun K hK => ?_) AllReadyH.nil
                      go_simp
                      go_wp2_with (first | (go_at_call 20; refine (sNumsK_any (W.heap.size) (x3.heap.size) 2 2 g8 Yb8.length c8 Yb8 [q.k, q.u] _ sx8 rfl (by omega) O8.out I8.out.lt n8.out rfl (by omega) (Bo.ints (ns := [q.k, q.u]) I8.out)).mono ?_; rintro e x9 ⟨g9, c9, rfl, o9, h9, p9, r9⟩))
                      have kx9 := hidP (kx8.out.trans r9)
                      have O9 := hidP o9
                      have sx9 : W.heap.size ≤ x9.heap.size := Nat.le_trans sx8 r9.size
                      have bo0_9 := hidP (bo0_8.out.kpG p9 m8.out r9.size)
                      have m9 : Hid (vl.heap.size ≠ g9) := hidP (by have hq5 := m8.out; have hq6 := bo0_8.out.lt; rcases h9 with hq7 | hq7 <;> omega)
                      refine hK.out _ _ ?_ (fun hHeld => ?_)
                      · try dsimp only
                        exact HSx.out _ kx9.out bo0_9.out
                      clear hK K
                      clear o9 r9 h9 p9
                      try simp only [pa]
                      rw [← List.length_append] at *
                      have e9 : (Yb8 ++ numsB [q.k, q.u]).length ≤ 22000 := by rw [List.length_append]; have := numsB_two q.k q.u; omega
                      generalize hY9 : Yb8 ++ numsB [q.k, q.u] = Yc9 at *
                      refine tk 15 3 rfl ?_; simp only [pa]
                      refine wpAnyH_done (by kernel_rfl) ?_ _
                      clear hHeld
                      have HK := hidP (HBl.out.trans kx9.out)
                      clear HSx
                      go_wp2_with fail
                      go_roundw
                      case rel => exact ⟨k + 1, g9, c9, by omega, by go_num, by rw [HRR.out, ← HX.out], by rw [HRR.out, ← HX.out]; exact O9.out, HK.out⟩
                      case measure => simp [intOf]; omega
                  · go_simp
                    have h10 := alloc_below x2 (.cells #[.int .i64 q.k, .int .i64 q.u] 3)
                    have I10 := hidP (Bo.new x2 [.int .i64 q.k, .int .i64 q.u] 3)
                    have n10 : Hid (x2.heap.size ≠ g2) := hidP (by have := (O2.out.lt g2 rfl).2; omega)
                    have kx10 := hidP (kx2.out.trans (h10.mono sx2))
                    have O10 := hidP (O2.out.later h10)
                    have bo0_10 := hidP (bo0_2.out.later h10)
                    have sx10 : W.heap.size ≤ (x2.alloc (.cells #[.int .i64 q.k, .int .i64 q.u] 3)).heap.size := Nat.le_trans sx2 h10.size
                    have z10 : Hid (x2.heap.size < (x2.alloc (.cells #[.int .i64 q.k, .int .i64 q.u] 3)).heap.size) := hidP (by simp)
                    generalize x2.alloc (.cells #[.int .i64 q.k, .int .i64 q.u] 3) = x10 at *
                    refine hK.out _ _ ?_ (fun hHeld => ?_)
                    · try dsimp only
                      exact HSx.out _ kx10.out bo0_10.out
                    clear hK K
                    clear h10
                    refine wpAnyH_ready (rs := [7]) (by kernel_rfl) (by simp) ?_
                    refine AllReadyH.cons rfl (fun K hK => ?_) AllReadyH.nil
                    go_simp
                    go_wp2_with (first | (go_at_call 23; refine (HC1.out _).mono ?_; rintro e x11 ⟨a11, c11, rfl, o11, h11⟩))
                    have kx11 := hidP (kx10.out.trans (h11.mono sx10))
                    have Q11 := hidP o11
                    have O11 := hidP (O10.out.later h11)
                    have bo0_11 := hidP (bo0_10.out.later h11)
                    have I11 := hidP (I10.out.later h11)
                    have sx11 : W.heap.size ≤ x11.heap.size := Nat.le_trans sx10 h11.size
                    refine hK.out _ _ ?_ (fun hHeld => ?_)
                    · try dsimp only
                      exact HSx.out _ kx11.out bo0_11.out
                    clear hK K
                    clear o11 h11
                    refine wpAnyH_ready (rs := [8]) (by kernel_rfl) (by simp) ?_
                    refine AllReadyH.cons rfl (fun K hK => ?_) AllReadyH.nil
                    refine step_app2 _ 119 rfl rfl (.tmp 115) (.tmp 118) 35 rfl (W.heap.size) g2 (Ya2.length) c2 (Ya2) (Z1) _ _ rfl rfl rfl O11.out rfl (src_own Q11.out) (by omega) sx11 ?_
                    intro g12 c12 x12 o12 r12 h12
                    have kx12 := hidP (below_app kx11.out O11.out sx11 r12)
                    have O12 := hidP o12
                    have bo0_12 := hidP (bo0_11.out.grown r12 m2.out)
                    have I12 := hidP (I11.out.grown r12 n10.out)
                    have n12 : Hid (x2.heap.size ≠ g12) := hidP (by have hq5 := n10.out; have hq6 := I11.out.lt; rcases h12 with hq7 | hq7 <;> omega)
                    have m12 : Hid (vl.heap.size ≠ g12) := hidP (by have hq5 := m2.out; have hq6 := bo0_11.out.lt; rcases h12 with hq7 | hq7 <;> omega)
                    have sx12 : W.heap.size ≤ x12.heap.size := Nat.le_trans sx11 r12.size
                    refine hK.out _ _ ?_ (fun hHeld => ?_)
                    · try dsimp only
                      exact HSx.out _ kx12.out bo0_12.out
                    clear hK K
                    clear o12 r12 h12
                    simp only [pa]
                    rw [← List.length_append] at *
                    have e12 : (Ya2 ++ Z1).length ≤ 21000 := by rw [List.length_append]; omega
                    generalize hY12 : Ya2 ++ Z1 = Yb12 at *
                    refine wpAnyH_ready (rs := [14]) (by kernel_rfl) (by simp) ?_
                    refine AllReadyH.cons rfl (fun K hK => ?_) AllReadyH.nil
                    go_simp
                    go_wp2_with (first | (go_at_call 20; refine (sNumsK_any (W.heap.size) (x2.heap.size) 2 2 g12 Yb12.length c12 Yb12 [q.k, q.u] _ sx12 rfl (by omega) O12.out I12.out.lt n12.out rfl (by omega) (Bo.ints (ns := [q.k, q.u]) I12.out)).mono ?_; rintro e x13 ⟨g13, c13, rfl, o13, h13, p13, r13⟩))
                    have kx13 := hidP (kx12.out.trans r13)
                    have O13 := hidP o13
                    have sx13 : W.heap.size ≤ x13.heap.size := Nat.le_trans sx12 r13.size
                    have bo0_13 := hidP (bo0_12.out.kpG p13 m12.out r13.size)
                    have m13 : Hid (vl.heap.size ≠ g13) := hidP (by have hq5 := m12.out; have hq6 := bo0_12.out.lt; rcases h13 with hq7 | hq7 <;> omega)
                    refine hK.out _ _ ?_ (fun hHeld => ?_)
                    · try dsimp only
                      exact HSx.out _ kx13.out bo0_13.out
                    clear hK K
                    clear o13 r13 h13 p13
                    try simp only [pa]
                    rw [← List.length_append] at *
                    have e13 : (Yb12 ++ numsB [q.k, q.u]).length ≤ 22000 := by rw [List.length_append]; have := numsB_two q.k q.u; omega
                    generalize hY13 : Yb12 ++ numsB [q.k, q.u] = Yc13 at *
                    refine tk 15 3 rfl ?_; simp only [pa]
                    refine wpAnyH_done (by kernel_rfl) ?_ _
                    clear hHeld
                    have HK := hidP (HBl.out.trans kx13.out)
                    clear HSx
                    go_wp2_with fail
                    go_roundw
                    case rel => exact ⟨k + 1, g13, c13, by omega, by go_num, by rw [HRR.out, ← HX.out], by rw [HRR.out, ← HX.out]; exact O13.out, HK.out⟩
                    case measure => simp [intOf]; omega
                · go_simp
                  have h14 := alloc_below x1 (.cells #[.int .i64 q.k, .int .i64 q.u] 3)
                  have I14 := hidP (Bo.new x1 [.int .i64 q.k, .int .i64 q.u] 3)
                  have n14 : Hid (x1.heap.size ≠ g') := hidP (by have := (O1.out.lt g' rfl).2; omega)
                  have kx14 := hidP (kx1.out.trans (h14.mono sx1))
                  have O14 := hidP (O1.out.later h14)
                  have Q14 := hidP (Q1.out.later h14)
                  have bo0_14 := hidP (bo0_1.out.later h14)
                  have sx14 : W.heap.size ≤ (x1.alloc (.cells #[.int .i64 q.k, .int .i64 q.u] 3)).heap.size := Nat.le_trans sx1 h14.size
                  have z14 : Hid (x1.heap.size < (x1.alloc (.cells #[.int .i64 q.k, .int .i64 q.u] 3)).heap.size) := hidP (by simp)
                  generalize x1.alloc (.cells #[.int .i64 q.k, .int .i64 q.u] 3) = x14 at *
                  refine hK.out _ _ ?_ (fun hHeld => ?_)
                  · try dsimp only
                    exact HSx.out _ kx14.out bo0_14.out
                  clear hK K
                  clear h14
                  refine wpAnyH_ready (rs := [4]) (by kernel_rfl) (by simp) ?_
                  refine AllReadyH.cons rfl (fun K hK => ?_) AllReadyH.nil
                  refine step_app2 _ 115 rfl rfl (.tmp 111) (.tmp 114) 35 rfl (W.heap.size) g' (V.length) c' (V) (Z0) _ _ rfl rfl rfl O14.out rfl (src_own Q14.out) (by omega) sx14 ?_
                  intro g15 c15 x15 o15 r15 h15
                  have kx15 := hidP (below_app kx14.out O14.out sx14 r15)
                  have O15 := hidP o15
                  have bo0_15 := hidP (bo0_14.out.grown r15 nX.out)
                  have I15 := hidP (I14.out.grown r15 n14.out)
                  have n15 : Hid (x1.heap.size ≠ g15) := hidP (by have hq5 := n14.out; have hq6 := I14.out.lt; rcases h15 with hq7 | hq7 <;> omega)
                  have m15 : Hid (vl.heap.size ≠ g15) := hidP (by have hq5 := nX.out; have hq6 := bo0_14.out.lt; rcases h15 with hq7 | hq7 <;> omega)
                  have sx15 : W.heap.size ≤ x15.heap.size := Nat.le_trans sx14 r15.size
                  refine hK.out _ _ ?_ (fun hHeld => ?_)
                  · try dsimp only
                    exact HSx.out _ kx15.out bo0_15.out
                  clear hK K
                  clear o15 r15 h15
                  simp only [pa]
                  rw [← List.length_append] at *
                  have e15 : (V ++ Z0).length ≤ 20000 := by rw [List.length_append]; omega
                  generalize hY15 : V ++ Z0 = Ya15 at *
                  refine wpAnyH_ready (rs := [7]) (by kernel_rfl) (by simp) ?_
                  refine AllReadyH.cons rfl (fun K hK => ?_) AllReadyH.nil
                  go_simp
                  go_wp2_with (first | (go_at_call 23; refine (HC1.out _).mono ?_; rintro e x16 ⟨a16, c16, rfl, o16, h16⟩))
                  have kx16 := hidP (kx15.out.trans (h16.mono sx15))
                  have Q16 := hidP o16
                  have O16 := hidP (O15.out.later h16)
                  have bo0_16 := hidP (bo0_15.out.later h16)
                  have I16 := hidP (I15.out.later h16)
                  have sx16 : W.heap.size ≤ x16.heap.size := Nat.le_trans sx15 h16.size
                  refine hK.out _ _ ?_ (fun hHeld => ?_)
                  · try dsimp only
                    exact HSx.out _ kx16.out bo0_16.out
                  clear hK K
                  clear o16 h16
                  refine wpAnyH_ready (rs := [8]) (by kernel_rfl) (by simp) ?_
                  refine AllReadyH.cons rfl (fun K hK => ?_) AllReadyH.nil
                  refine step_app2 _ 119 rfl rfl (.tmp 115) (.tmp 118) 35 rfl (W.heap.size) g15 (Ya15.length) c15 (Ya15) (Z1) _ _ rfl rfl rfl O16.out rfl (src_own Q16.out) (by omega) sx16 ?_
                  intro g17 c17 x17 o17 r17 h17
                  have kx17 := hidP (below_app kx16.out O16.out sx16 r17)
                  have O17 := hidP o17
                  have bo0_17 := hidP (bo0_16.out.grown r17 m15.out)
                  have I17 := hidP (I16.out.grown r17 n15.out)
                  have n17 : Hid (x1.heap.size ≠ g17) := hidP (by have hq5 := n15.out; have hq6 := I16.out.lt; rcases h17 with hq7 | hq7 <;> omega)
                  have m17 : Hid (vl.heap.size ≠ g17) := hidP (by have hq5 := m15.out; have hq6 := bo0_16.out.lt; rcases h17 with hq7 | hq7 <;> omega)
                  have sx17 : W.heap.size ≤ x17.heap.size := Nat.le_trans sx16 r17.size
                  refine hK.out _ _ ?_ (fun hHeld => ?_)
                  · try dsimp only
                    exact HSx.out _ kx17.out bo0_17.out
                  clear hK K
                  clear o17 r17 h17
                  simp only [pa]
                  rw [← List.length_append] at *
                  have e17 : (Ya15 ++ Z1).length ≤ 21000 := by rw [List.length_append]; omega
                  generalize hY17 : Ya15 ++ Z1 = Yb17 at *
                  refine wpAnyH_ready (rs := [14]) (by kernel_rfl) (by simp) ?_
                  refine AllReadyH.cons rfl (fun K hK => ?_) AllReadyH.nil
                  go_simp
                  go_wp2_with (first | (go_at_call 20; refine (sNumsK_any (W.heap.size) (x1.heap.size) 2 2 g17 Yb17.length c17 Yb17 [q.k, q.u] _ sx17 rfl (by omega) O17.out I17.out.lt n17.out rfl (by omega) (Bo.ints (ns := [q.k, q.u]) I17.out)).mono ?_; rintro e x18 ⟨g18, c18, rfl, o18, h18, p18, r18⟩))
                  have kx18 := hidP (kx17.out.trans r18)
                  have O18 := hidP o18
                  have sx18 : W.heap.size ≤ x18.heap.size := Nat.le_trans sx17 r18.size
                  have bo0_18 := hidP (bo0_17.out.kpG p18 m17.out r18.size)
                  have m18 : Hid (vl.heap.size ≠ g18) := hidP (by have hq5 := m17.out; have hq6 := bo0_17.out.lt; rcases h18 with hq7 | hq7 <;> omega)
                  refine hK.out _ _ ?_ (fun hHeld => ?_)
                  · try dsimp only
                    exact HSx.out _ kx18.out bo0_18.out
                  clear hK K
                  clear o18 r18 h18 p18
                  try simp only [pa]
                  rw [← List.length_append] at *
                  have e18 : (Yb17 ++ numsB [q.k, q.u]).length ≤ 22000 := by rw [List.length_append]; have := numsB_two q.k q.u; omega
                  generalize hY18 : Yb17 ++ numsB [q.k, q.u] = Yc18 at *
                  refine tk 15 3 rfl ?_; simp only [pa]
                  refine wpAnyH_done (by kernel_rfl) ?_ _
                  clear hHeld
                  have HK := hidP (HBl.out.trans kx18.out)
                  clear HSx
                  go_wp2_with fail
                  go_roundw
                  case rel => exact ⟨k + 1, g18, c18, by omega, by go_num, by rw [HRR.out, ← HX.out], by rw [HRR.out, ← HX.out]; exact O18.out, HK.out⟩
                  case measure => simp [intOf]; omega
              · go_simp
                have h19 := alloc_below D (.cells #[.int .i64 q.k, .int .i64 q.u] 3)
                have I19 := hidP (Bo.new D [.int .i64 q.k, .int .i64 q.u] 3)
                have n19 : Hid (D.heap.size ≠ g') := hidP (by have := (OD.out.lt g' rfl).2; omega)
                have kx19 := hidP (kD.out.trans (h19.mono sD))
                have O19 := hidP (OD.out.later h19)
                have bo0_19 := hidP (bD0.out.later h19)
                have sx19 : W.heap.size ≤ (D.alloc (.cells #[.int .i64 q.k, .int .i64 q.u] 3)).heap.size := Nat.le_trans sD h19.size
                have z19 : Hid (D.heap.size < (D.alloc (.cells #[.int .i64 q.k, .int .i64 q.u] 3)).heap.size) := hidP (by simp)
                generalize D.alloc (.cells #[.int .i64 q.k, .int .i64 q.u] 3) = x19 at *
                refine hK.out _ _ ?_ (fun hHeld => ?_)
                · try dsimp only
                  exact HSx.out _ kx19.out bo0_19.out
                clear hK K
                clear h19
                refine wpAnyH_ready (rs := [3]) (by kernel_rfl) (by simp) ?_
                refine AllReadyH.cons rfl (fun K hK => ?_) AllReadyH.nil
                go_simp
                go_wp2_with (first | (go_at_call 24; refine (HC0.out _).mono ?_; rintro e x20 ⟨g20, c20, rfl, o20, h20⟩))
                have kx20 := hidP (kx19.out.trans (h20.mono sx19))
                have Q20 := hidP o20
                have O20 := hidP (O19.out.later h20)
                have bo0_20 := hidP (bo0_19.out.later h20)
                have I20 := hidP (I19.out.later h20)
                have sx20 : W.heap.size ≤ x20.heap.size := Nat.le_trans sx19 h20.size
                refine hK.out _ _ ?_ (fun hHeld => ?_)
                · try dsimp only
                  exact HSx.out _ kx20.out bo0_20.out
                clear hK K
                clear o20 h20
                refine wpAnyH_ready (rs := [4]) (by kernel_rfl) (by simp) ?_
                refine AllReadyH.cons rfl (fun K hK => ?_) AllReadyH.nil
                refine step_app2 _ 115 rfl rfl (.tmp 111) (.tmp 114) 35 rfl (W.heap.size) g' (V.length) c' (V) (Z0) _ _ rfl rfl rfl O20.out rfl (src_own Q20.out) (by omega) sx20 ?_
                intro g21 c21 x21 o21 r21 h21
                have kx21 := hidP (below_app kx20.out O20.out sx20 r21)
                have O21 := hidP o21
                have bo0_21 := hidP (bo0_20.out.grown r21 nX.out)
                have I21 := hidP (I20.out.grown r21 n19.out)
                have n21 : Hid (D.heap.size ≠ g21) := hidP (by have hq5 := n19.out; have hq6 := I20.out.lt; rcases h21 with hq7 | hq7 <;> omega)
                have m21 : Hid (vl.heap.size ≠ g21) := hidP (by have hq5 := nX.out; have hq6 := bo0_20.out.lt; rcases h21 with hq7 | hq7 <;> omega)
                have sx21 : W.heap.size ≤ x21.heap.size := Nat.le_trans sx20 r21.size
                refine hK.out _ _ ?_ (fun hHeld => ?_)
                · try dsimp only
                  exact HSx.out _ kx21.out bo0_21.out
                clear hK K
                clear o21 r21 h21
                simp only [pa]
                rw [← List.length_append] at *
                have e21 : (V ++ Z0).length ≤ 20000 := by rw [List.length_append]; omega
                generalize hY21 : V ++ Z0 = Ya21 at *
                refine wpAnyH_ready (rs := [7]) (by kernel_rfl) (by simp) ?_
                refine AllReadyH.cons rfl (fun K hK => ?_) AllReadyH.nil
                go_simp
                go_wp2_with (first | (go_at_call 23; refine (HC1.out _).mono ?_; rintro e x22 ⟨a22, c22, rfl, o22, h22⟩))
                have kx22 := hidP (kx21.out.trans (h22.mono sx21))
                have Q22 := hidP o22
                have O22 := hidP (O21.out.later h22)
                have bo0_22 := hidP (bo0_21.out.later h22)
                have I22 := hidP (I21.out.later h22)
                have sx22 : W.heap.size ≤ x22.heap.size := Nat.le_trans sx21 h22.size
                refine hK.out _ _ ?_ (fun hHeld => ?_)
                · try dsimp only
                  exact HSx.out _ kx22.out bo0_22.out
                clear hK K
                clear o22 h22
                refine wpAnyH_ready (rs := [8]) (by kernel_rfl) (by simp) ?_
                refine AllReadyH.cons rfl (fun K hK => ?_) AllReadyH.nil
                refine step_app2 _ 119 rfl rfl (.tmp 115) (.tmp 118) 35 rfl (W.heap.size) g21 (Ya21.length) c21 (Ya21) (Z1) _ _ rfl rfl rfl O22.out rfl (src_own Q22.out) (by omega) sx22 ?_
                intro g23 c23 x23 o23 r23 h23
                have kx23 := hidP (below_app kx22.out O22.out sx22 r23)
                have O23 := hidP o23
                have bo0_23 := hidP (bo0_22.out.grown r23 m21.out)
                have I23 := hidP (I22.out.grown r23 n21.out)
                have n23 : Hid (D.heap.size ≠ g23) := hidP (by have hq5 := n21.out; have hq6 := I22.out.lt; rcases h23 with hq7 | hq7 <;> omega)
                have m23 : Hid (vl.heap.size ≠ g23) := hidP (by have hq5 := m21.out; have hq6 := bo0_22.out.lt; rcases h23 with hq7 | hq7 <;> omega)
                have sx23 : W.heap.size ≤ x23.heap.size := Nat.le_trans sx22 r23.size
                refine hK.out _ _ ?_ (fun hHeld => ?_)
                · try dsimp only
                  exact HSx.out _ kx23.out bo0_23.out
                clear hK K
                clear o23 r23 h23
                simp only [pa]
                rw [← List.length_append] at *
                have e23 : (Ya21 ++ Z1).length ≤ 21000 := by rw [List.length_append]; omega
                generalize hY23 : Ya21 ++ Z1 = Yb23 at *
                refine wpAnyH_ready (rs := [14]) (by kernel_rfl) (by simp) ?_
                refine AllReadyH.cons rfl (fun K hK => ?_) AllReadyH.nil
                go_simp
                go_wp2_with (first | (go_at_call 20; refine (sNumsK_any (W.heap.size) (D.heap.size) 2 2 g23 Yb23.length c23 Yb23 [q.k, q.u] _ sx23 rfl (by omega) O23.out I23.out.lt n23.out rfl (by omega) (Bo.ints (ns := [q.k, q.u]) I23.out)).mono ?_; rintro e x24 ⟨g24, c24, rfl, o24, h24, p24, r24⟩))
                have kx24 := hidP (kx23.out.trans r24)
                have O24 := hidP o24
                have sx24 : W.heap.size ≤ x24.heap.size := Nat.le_trans sx23 r24.size
                have bo0_24 := hidP (bo0_23.out.kpG p24 m23.out r24.size)
                have m24 : Hid (vl.heap.size ≠ g24) := hidP (by have hq5 := m23.out; have hq6 := bo0_23.out.lt; rcases h24 with hq7 | hq7 <;> omega)
                refine hK.out _ _ ?_ (fun hHeld => ?_)
                · try dsimp only
                  exact HSx.out _ kx24.out bo0_24.out
                clear hK K
                clear o24 r24 h24 p24
                try simp only [pa]
                rw [← List.length_append] at *
                have e24 : (Yb23 ++ numsB [q.k, q.u]).length ≤ 22000 := by rw [List.length_append]; have := numsB_two q.k q.u; omega
                generalize hY24 : Yb23 ++ numsB [q.k, q.u] = Yc24 at *
                refine tk 15 3 rfl ?_; simp only [pa]
                refine wpAnyH_done (by kernel_rfl) ?_ _
                clear hHeld
                have HK := hidP (HBl.out.trans kx24.out)
                clear HSx
                go_wp2_with fail
                go_roundw
                case rel => exact ⟨k + 1, g24, c24, by omega, by go_num, by rw [HRR.out, ← HX.out], by rw [HRR.out, ← HX.out]; exact O24.out, HK.out⟩
                case measure => simp [intOf]; omega
            · have he := manyB_all leaseB ls k (by have := HNl.out; omega)
              rw [he] at HOw ⊢
              have gk : decide ((k : Int) < (nl : Int)) = false := decide_eq_false (by omega)
              clear hown hbel he HBw
              generalize Y2 ++ manyB leaseB ls = V2 at *
              go_wp2_with fail
              have mB := alloc_below vl (.cells #[.int .i64 X, .int .i64 (ns : Int)] 3)
              have iR := hidP (Bo.new vl [.int .i64 X, .int .i64 (ns : Int)] 3)
              have nX : vl.heap.size ≠ g' := by have := (HOw.out.lt g' rfl).2; omega
              have OO := hidP (HOw.out.later mB)
              have KK := hidP (HBl.out.trans (mB.mono sB))
              have s1 : W.heap.size ≤ (vl.alloc (.cells #[.int .i64 X, .int .i64 (ns : Int)] 3)).heap.size := Nat.le_trans sB mB.size
              clear mB HBl HOw z0 z1 z2 z3 z4 z5 z6 z7
              generalize vl.alloc (.cells #[.int .i64 X, .int .i64 (ns : Int)] 3) = X2 at *
              have hvl := HLnl.out
              refine (sNums_any W.heap.size vl.heap.size 2 2 g' V2.length c' V2 [X, (ns : Int)] X2 s1 rfl (by omega) OO.out iR.out.lt nX rfl (by omega) (Bo.ints (ns := [X, (ns : Int)]) iR.out)).mono ?_
              rintro e u3 ⟨g3, c3, rfl, o1, hg1, b1⟩
              have O3 := hidP o1
              have U3 := hidP (KK.out.trans b1)
              clear o1 b1 hg1 iR OO KK hvl s1 nX HLnl zL gk hlt sB
              generalize V2 ++ numsB [X, (ns : Int)] = Y3 at *
              have HLns : Hid ((Y3 ++ manyB sessB ss).length ≤ 18000) := hidP (by
                have h7 := HL8.out
                rw [← HFin.out] at h7
                exact h7)
              go_wp2_with fail
              go_loopw [3, 8] (fun t3 ti wr => ∃ (k g' c' : Nat), k ≤ ns ∧ ti = .int .i64 k ∧ t3 = .slice (some ⟨g', 0, none⟩) (Y3 ++ manyB sessB (ss.take k)).length c' ∧ Own wr W.heap.size (.slice (some ⟨g', 0, none⟩) (Y3 ++ manyB sessB (ss.take k)).length c') (Y3 ++ manyB sessB (ss.take k)) ∧ Below W.heap.size W wr) (fun _ ti _ => ns - (intOf ti).toNat)
              case atStart => exact ⟨0, g3, c3, Nat.zero_le _, rfl, by simp [manyB], by simpa [manyB] using O3.out, U3.out⟩
              case round =>
                obtain ⟨k, g', c', hk, rfl, rfl, hown, hbel⟩ := hrel
                obtain ⟨vs, rfl⟩ : ∃ X, X = wr := ⟨_, rfl⟩
                have HOw := hidP hown
                have HBl := hidP hbel
                have sB : W.heap.size ≤ vs.heap.size := hbel.size
                have HBw := hidP (HW.out.trans (hbel.mono HW.out.size))
                have z0 := (hbel.cell yL).trans y0
                have z1 := (hbel.cell yL).trans y1
                have z2 := (hbel.cell yL).trans y2
                have z3 := (hbel.cell yL).trans y3
                have z4 := (hbel.cell yL).trans y4
                have z5 := (hbel.cell yL).trans y5
                have z6 := (hbel.cell yL).trans y6
                have z7 := (hbel.cell yL).trans y7
                have zL : w.heap.size < vs.heap.size := Nat.lt_of_lt_of_le yL hbel.size
                by_cases hlt : k < ns
                · obtain ⟨p, o, q, rfl, hp, hq, c0, c1, c2, c3⟩ := rowSs HRs.out k (by have := HNs.out; omega)
                  have d0 := (HBw.out.cell hp).trans c0
                  have d1 := (HBw.out.cell hp).trans c1
                  have d2 := (HBw.out.cell hp).trans c2
                  have d3 := (HBw.out.cell hp).trans c3
                  have hpB : p < W.heap.size := Nat.lt_trans hp yL
                  have hpw : p < vs.heap.size := Nat.lt_of_lt_of_le hpB sB
                  have k0 : (0 : Int) ≤ (k : Int) := by omega
                  have k1 : (k : Int) < (ns : Int) := by omega
                  have HX : Hid (((((Y3 ++ manyB sessB (ss.take k)) ++ numsB [q.i, q.l]) ++ txtB q.t) ++ numB (Go.Proofs.YtngcbhbcocnbeaaGreat.u64 q.u)) = Y3 ++ manyB sessB (ss.take (k + 1))) := hidP (by rw [manyB_at sessB ss k q hq]; unfold sessB; simp only [List.flatten_cons, List.flatten_nil, List.append_nil, List.append_assoc])
                  have hVl : (Y3 ++ manyB sessB (ss.take k)).length ≤ 18000 := by have h1 := HLns.out; have h2 := many_take sessB ss k; rw [List.length_append] at h1 ⊢; omega
                  have ht : q.t.size ≤ 200 := by have := HT.out.ts q (List.mem_of_getElem? hq); omega
                  have lz0 : (txtB q.t).length ≤ 210 := by have := txtB_len q.t; omega
                  have HC0 := hidP (fun W => sPutText_any q.t W (by omega))
                  have lz1 := numB_ten _ (u64_lt q.u)
                  have HC1 := hidP (sPutNum_any q.u)
                  generalize txtB q.t = Z0 at *
                  generalize numB (Go.Proofs.YtngcbhbcocnbeaaGreat.u64 q.u) = Z1 at *
                  generalize hRR : Y3 ++ manyB sessB (ss.take (k + 1)) = RR at *
                  have HRR := hidP hRR
                  clear hRR
                  generalize Y3 ++ manyB sessB (ss.take k) = V at *
                  clear hown hbel hq c0 c1 c2 c3
                  clear z0 z1 z2 z3 z4 z6 z7
                  go_upto_region 24 with fail
                  have mB := alloc_below vs (.cells #[.int .i64 q.i, .int .i64 q.l, .string q.t, .int .i64 q.u] 77)
                  have bX := hidP (Bo.new vs [.int .i64 q.i, .int .i64 q.l, .string q.t, .int .i64 q.u] 77)
                  have nX : Hid (vs.heap.size ≠ g') := hidP (by have := (HOw.out.lt g' rfl).2; omega)
                  have HOv := hidP (HOw.out.later mB)
                  have HBv := hidP (HBl.out.trans (mB.mono sB))
                  have sB2 : W.heap.size ≤ (vs.alloc (.cells #[.int .i64 q.i, .int .i64 q.l, .string q.t, .int .i64 q.u] 77)).heap.size := Nat.le_trans sB mB.size
                  have zz : Hid (vs.heap.size < (vs.alloc (.cells #[.int .i64 q.i, .int .i64 q.l, .string q.t, .int .i64 q.u] 77)).heap.size) := hidP (by simp)
                  clear mB HBl HOw sB
                  generalize vs.alloc (.cells #[.int .i64 q.i, .int .i64 q.l, .string q.t, .int .i64 q.u] 77) = Vs at *
                  have sB := sB2
                  have HBl := HBv
                  clear sB2 HBv
                  have HSx : Hid (∀ x, Below W.heap.size Vs x → Bo x (vs.heap.size) [.int .i64 q.i, .int .i64 q.l, .string q.t, .int .i64 q.u] → (x.cell? ⟨vs.heap.size, 0, none⟩ = some (.int .i64 q.i) ∧ x.cell? ⟨vs.heap.size, 1, none⟩ = some (.int .i64 q.l) ∧ x.cell? ⟨vs.heap.size, 2, none⟩ = some (.string q.t) ∧ x.cell? ⟨vs.heap.size, 3, none⟩ = some (.int .i64 q.u) ∧ Below W.heap.size Vs x)) := hidP fun x h q0 =>
                    ⟨q0.cel 0 _ rfl, q0.cel 1 _ rfl, q0.cel 2 _ rfl, q0.cel 3 _ rfl, h⟩
                  have kD := hidP (show Below W.heap.size Vs Vs.drew from (Below.refl _ _).drew)
                  have OD := hidP (HOv.out.later (show Below Vs.heap.size Vs Vs.drew from (Below.refl _ _).drew))
                  have bD0 := hidP (bX.out.later (show Below Vs.heap.size Vs Vs.drew from (Below.refl _ _).drew))
                  have sD : W.heap.size ≤ Vs.drew.heap.size := by simpa using sB
                  refine wp_region_held_drew (S := (fun x => x.cell? ⟨vs.heap.size, 0, none⟩ = some (.int .i64 q.i) ∧ x.cell? ⟨vs.heap.size, 1, none⟩ = some (.int .i64 q.l) ∧ x.cell? ⟨vs.heap.size, 2, none⟩ = some (.string q.t) ∧ x.cell? ⟨vs.heap.size, 3, none⟩ = some (.int .i64 q.u) ∧ Below W.heap.size Vs x)) (by kernel_rfl) ?_ (fun hHeld => ?_)
                  · try dsimp only
                    exact HSx.out _ kD.out bD0.out
                  generalize Vs.drew = D at *
                  refine tk 0 150 rfl ?_; simp only [pa]
                  refine tk 1 151 rfl ?_; simp only [pa]
                  refine tk 2 152 rfl ?_; simp only [pa]
                  refine tk 3 153 rfl ?_; simp only [pa]
                  refine tk 4 154 rfl ?_; simp only [pa]
                  refine tk 7 157 rfl ?_; simp only [pa]
                  refine tk 8 158 rfl ?_; simp only [pa]
                  refine tk 11 161 rfl ?_; simp only [pa]
                  refine tk 12 162 rfl ?_; simp only [pa]
                  refine wpAnyH_ready (rs := [5]) (by kernel_rfl) (by simp) ?_
                  refine AllReadyH.cons rfl (fun K hK => ?_) AllReadyH.nil
                  go_simp
                  have h1 := alloc_below D (.cells #[.int .i64 q.i, .int .i64 q.l] 3)
                  have I1 := hidP (Bo.new D [.int .i64 q.i, .int .i64 q.l] 3)
                  have n1 : Hid (D.heap.size ≠ g') := hidP (by have := (OD.out.lt g' rfl).2; omega)
                  have kx1 := hidP (kD.out.trans (h1.mono sD))
                  have O1 := hidP (OD.out.later h1)
                  have bo0_1 := hidP (bD0.out.later h1)
                  have sx1 : W.heap.size ≤ (D.alloc (.cells #[.int .i64 q.i, .int .i64 q.l] 3)).heap.size := Nat.le_trans sD h1.size
                  have z1 : Hid (D.heap.size < (D.alloc (.cells #[.int .i64 q.i, .int .i64 q.l] 3)).heap.size) := hidP (by simp)
                  generalize D.alloc (.cells #[.int .i64 q.i, .int .i64 q.l] 3) = x1 at *
                  refine hK.out _ _ ?_ (fun hHeld => ?_)
                  · try dsimp only
                    exact HSx.out _ kx1.out bo0_1.out
                  clear hK K
                  clear h1
                  refine wpAnyH_ready (rs := [6]) (by kernel_rfl) (by simp) ?_
                  refine AllReadyH.cons rfl (fun K hK => ?_) AllReadyH.nil
                  go_simp
                  go_wp2_with (first | (go_at_call 20; refine (sNumsK_any (W.heap.size) (D.heap.size) 2 2 g' V.length c' V [q.i, q.l] _ sx1 rfl (by omega) O1.out I1.out.lt n1.out rfl (by omega) (Bo.ints (ns := [q.i, q.l]) I1.out)).mono ?_; rintro e x2 ⟨g2, c2, rfl, o2, h2, p2, r2⟩))
                  have kx2 := hidP (kx1.out.trans r2)
                  have O2 := hidP o2
                  have sx2 : W.heap.size ≤ x2.heap.size := Nat.le_trans sx1 r2.size
                  have bo0_2 := hidP (bo0_1.out.kpG p2 nX.out r2.size)
                  have m2 : Hid (vs.heap.size ≠ g2) := hidP (by have hq5 := nX.out; have hq6 := bo0_1.out.lt; rcases h2 with hq7 | hq7 <;> omega)
                  refine hK.out _ _ ?_ (fun hHeld => ?_)
                  · try dsimp only
                    exact HSx.out _ kx2.out bo0_2.out
                  clear hK K
                  clear o2 r2 h2 p2
                  try simp only [pa]
                  rw [← List.length_append] at *
                  have e2 : (V ++ numsB [q.i, q.l]).length ≤ 20000 := by rw [List.length_append]; have := numsB_two q.i q.l; omega
                  generalize hY2 : V ++ numsB [q.i, q.l] = Ya2 at *
                  refine wpAnyH_ready (rs := [9]) (by kernel_rfl) (by simp) ?_
                  refine AllReadyH.cons rfl (fun K hK => ?_) AllReadyH.nil
                  go_simp
                  go_wp2_with (first | (go_at_call 23; refine (HC0.out _).mono ?_; rintro e x3 ⟨a3, c3, rfl, o3, h3⟩))
                  have kx3 := hidP (kx2.out.trans (h3.mono sx2))
                  have Q3 := hidP o3
                  have O3 := hidP (O2.out.later h3)
                  have bo0_3 := hidP (bo0_2.out.later h3)
                  have sx3 : W.heap.size ≤ x3.heap.size := Nat.le_trans sx2 h3.size
                  refine hK.out _ _ ?_ (fun hHeld => ?_)
                  · try dsimp only
                    exact HSx.out _ kx3.out bo0_3.out
                  clear hK K
                  clear o3 h3
                  refine wpAnyH_ready (rs := [10]) (by kernel_rfl) (by simp) ?_
                  refine AllReadyH.cons rfl (fun K hK => ?_) AllReadyH.nil
                  refine step_app2 _ 160 rfl rfl (.tmp 156) (.tmp 159) 35 rfl (W.heap.size) g2 (Ya2.length) c2 (Ya2) (Z0) _ _ rfl rfl rfl O3.out rfl (src_own Q3.out) (by omega) sx3 ?_
                  intro g4 c4 x4 o4 r4 h4
                  have kx4 := hidP (below_app kx3.out O3.out sx3 r4)
                  have O4 := hidP o4
                  have bo0_4 := hidP (bo0_3.out.grown r4 m2.out)
                  have m4 : Hid (vs.heap.size ≠ g4) := hidP (by have hq5 := m2.out; have hq6 := bo0_3.out.lt; rcases h4 with hq7 | hq7 <;> omega)
                  have sx4 : W.heap.size ≤ x4.heap.size := Nat.le_trans sx3 r4.size
                  refine hK.out _ _ ?_ (fun hHeld => ?_)
                  · try dsimp only
                    exact HSx.out _ kx4.out bo0_4.out
                  clear hK K
                  clear o4 r4 h4
                  simp only [pa]
                  rw [← List.length_append] at *
                  have e4 : (Ya2 ++ Z0).length ≤ 21000 := by rw [List.length_append]; omega
                  generalize hY4 : Ya2 ++ Z0 = Yb4 at *
                  refine wpAnyH_ready (rs := [13]) (by kernel_rfl) (by simp) ?_
                  refine AllReadyH.cons rfl (fun K hK => ?_) AllReadyH.nil
                  go_simp
                  go_wp2_with (first | (go_at_call 22; refine (HC1.out _).mono ?_; rintro e x5 ⟨a5, c5, rfl, o5, h5⟩))
                  have kx5 := hidP (kx4.out.trans (h5.mono sx4))
                  have Q5 := hidP o5
                  have O5 := hidP (O4.out.later h5)
                  have bo0_5 := hidP (bo0_4.out.later h5)
                  have sx5 : W.heap.size ≤ x5.heap.size := Nat.le_trans sx4 h5.size
                  refine hK.out _ _ ?_ (fun hHeld => ?_)
                  · try dsimp only
                    exact HSx.out _ kx5.out bo0_5.out
                  clear hK K
                  clear o5 h5
                  refine wpAnyH_ready (rs := [14]) (by kernel_rfl) (by simp) ?_
                  refine AllReadyH.cons rfl (fun K hK => ?_) AllReadyH.nil
                  refine step_app2 _ 164 rfl rfl (.tmp 160) (.tmp 163) 35 rfl (W.heap.size) g4 (Yb4.length) c4 (Yb4) (Z1) _ _ rfl rfl rfl O5.out rfl (src_own Q5.out) (by omega) sx5 ?_
                  intro g6 c6 x6 o6 r6 h6
                  have kx6 := hidP (below_app kx5.out O5.out sx5 r6)
                  have O6 := hidP o6
                  have bo0_6 := hidP (bo0_5.out.grown r6 m4.out)
                  have m6 : Hid (vs.heap.size ≠ g6) := hidP (by have hq5 := m4.out; have hq6 := bo0_5.out.lt; rcases h6 with hq7 | hq7 <;> omega)
                  have sx6 : W.heap.size ≤ x6.heap.size := Nat.le_trans sx5 r6.size
                  refine hK.out _ _ ?_ (fun hHeld => ?_)
                  · try dsimp only
                    exact HSx.out _ kx6.out bo0_6.out
                  clear hK K
                  clear o6 r6 h6
                  simp only [pa]
                  rw [← List.length_append] at *
                  have e6 : (Yb4 ++ Z1).length ≤ 22000 := by rw [List.length_append]; omega
                  generalize hY6 : Yb4 ++ Z1 = Yc6 at *
                  refine tk 15 3 rfl ?_; simp only [pa]
                  refine wpAnyH_done (by kernel_rfl) ?_ _
                  clear hHeld
                  have HK := hidP (HBl.out.trans kx6.out)
                  clear HSx
                  go_wp2_with fail
                  go_roundw
                  case rel => exact ⟨k + 1, g6, c6, by omega, by go_num, by rw [HRR.out, ← HX.out], by rw [HRR.out, ← HX.out]; exact O6.out, HK.out⟩
                  case measure => simp [intOf]; omega
                · have he := manyB_all sessB ss k (by have := HNs.out; omega)
                  rw [he] at HOw ⊢
                  have gk : decide ((k : Int) < (ns : Int)) = false := decide_eq_false (by omega)
                  clear hown hbel he HBw
                  generalize Y3 ++ manyB sessB ss = V3 at *
                  have hE : V3 = Zf := HFin.out
                  subst hE
                  have hvl : ¬ ((18000 : Int) < (V3.length : Int)) := by have := HL8.out; omega
                  have hvd : decide ((V3.length : Int) > 18000) = false := decide_eq_false (by omega)
                  have HBz := hidP (HW.out.trans (HBl.out.mono HW.out.size))
                  have hWB := HW.out.size
                  go_wp2_with fail
                  go_ret
                  exact ⟨g', c', rfl, HOw.out.mono hWB, HBz.out⟩

end Go.Proofs.YtngcbhbcocnbeaaGreat
namespace Go.Proofs.YtngcbhbcocnbeaaGreat
open Go.RowKit

set_option maxRecDepth 10000 in
set_option maxHeartbeats 4000000 in
theorem putRowsPl_any (a : Option Addr) (n c : Nat) (xs : List Pl) (w : World) (hn : n = xs.length) (hR : RowG KPl w a xs) (hB : ∀ x ∈ xs, (poolB x).length ≤ 1000) (hl : n ≤ 1000) :
    Calls Tryz.prog 31 #[.slice a n c, .func (.func 32) #[] #[]] w fun e w' => ∃ g c, e = .returned (.slice (some ⟨g, 0, none⟩) (rowsB poolB xs).length c) ∧ Own w' w.heap.size (.slice (some ⟨g, 0, none⟩) (rowsB poolB xs).length c) (rowsB poolB xs) ∧ Below w.heap.size w w' := by
  have HR := hidP hR
  have HN := hidP hn
  have HB := hidP hB
  have HF := hidP (fun q W => putPool_any q W)
  have HZ : Hid (rowsB poolB xs = numB (u64 (n : Int)) ++ manyB poolB xs) := hidP (by rw [hn]; rfl)
  have HY := hidP (numB_ten _ (u64_lt (n : Int)))
  have HY0 := hidP (numB_pos (u64 (n : Int)))
  have HPn := hidP (iPutNum_any (n : Int))
  clear hR hn hB
  generalize rowsB poolB xs = ZZ at *
  generalize numB (u64 (n : Int)) = Y at *
  go_enter Tryz.func31, Tryz.ntmps31
  go_wp2_with fail
  refine (HPn.out _).mono ?_
  rintro e w1 ⟨a1, c1, rfl, o1, b1⟩
  obtain ⟨g1, rfl, _, _⟩ := o1.head HY0.out
  have HO1 := hidP o1
  have HB1 := hidP b1
  clear o1 b1 HPn
  go_wp2_with fail
  go_loopw [5, 13] (fun t5 t13 wr => ∃ (k g' c' : Nat), k ≤ n ∧ t13 = .int .i64 k ∧ t5 = .slice (some ⟨g', 0, none⟩) (Y ++ manyB poolB (xs.take k)).length c' ∧ Own wr w.heap.size (.slice (some ⟨g', 0, none⟩) (Y ++ manyB poolB (xs.take k)).length c') (Y ++ manyB poolB (xs.take k)) ∧ Below w.heap.size w wr) (fun _ t13 _ => n - (intOf t13).toNat)
  case atStart => exact ⟨0, g1, c1, Nat.zero_le _, rfl, by simp [manyB], by simpa [manyB] using HO1.out, HB1.out⟩
  case round =>
    obtain ⟨k, g', c', hk, rfl, rfl, hown, hbel⟩ := hrel
    have HOw := hidP hown
    have HBl := hidP hbel
    have hsz := hbel.size
    by_cases hlt : k < n
    · obtain ⟨p, o, q, rfl, hp, hq, c0, c1, c2, c3, c4⟩ := rowPl HR.out k (by have := HN.out; omega)
      have d0 := (hbel.cell hp).trans c0
      have d1 := (hbel.cell hp).trans c1
      have d2 := (hbel.cell hp).trans c2
      have d3 := (hbel.cell hp).trans c3
      have d4 := (hbel.cell hp).trans c4
      have hpw : p < wr.heap.size := Nat.lt_of_lt_of_le hp hbel.size
      have k0 : (0 : Int) ≤ (k : Int) := by omega
      have k1 : (k : Int) < (n : Int) := by omega
      have HX := hidP (show Y ++ manyB poolB (xs.take (k + 1)) = (Y ++ manyB poolB (xs.take k)) ++ poolB q by rw [manyB_at poolB xs k q hq, List.append_assoc])
      have HLk := hidP (show (Y ++ manyB poolB (xs.take k)).length ≤ 1000010 by
        rw [List.length_append]
        have h1 := manyB_le poolB 1000 xs k HB.out
        have h2 := HY.out
        have h3 : xs.length * 1000 ≤ 1000 * 1000 := Nat.mul_le_mul_right 1000 (by have := HN.out; omega)
        omega)
      have HQ := hidP (HB.out q (List.mem_of_getElem? hq))
      have HPq := hidP (fun W => HF.out q W)
      generalize Y ++ manyB poolB (xs.take k) = V at *
      generalize poolB q = U at *
      clear hown hbel hq c0 c1 c2 c3 c4 HF
      go_wp2_with fail
      have mB := hidP (alloc_below wr (.cells #[.bool q.p.s, .int .i64 q.p.H.toInt, .int .i64 q.p.L.toInt, .int .i64 q.p.b, .int .i64 q.n] 68))
      have mS : (wr.alloc (.cells #[.bool q.p.s, .int .i64 q.p.H.toInt, .int .i64 q.p.L.toInt, .int .i64 q.p.b, .int .i64 q.n] 68)).heap.size = wr.heap.size + 1 := by simp
      refine (HPq.out _).mono ?_
      rintro e w2 ⟨g2, c2, rfl, o2, b2⟩
      have HO2 := hidP o2
      have HOx := hidP ((HOw.out.later mB.out).later b2)
      have HBx := hidP (HBl.out.trans (((mB.out.trans (b2.mono mB.out.size))).mono hsz))
      have hBr : w.heap.size ≤ w2.heap.size := HBx.out.size
      clear o2 b2 mB mS d0 d1 d2 d3 d4
      go_wp2_with (at_builtin; refine wpList_app _ rfl (.tmp 17) (.tmp 20) 35 rfl w.heap.size g' V.length c' V U _ _ rfl rfl rfl HOx.out rfl (src_own HO2.out) (by have := HLk.out; have := HQ.out; omega) hBr ?_; intro g3 c3 w3 hown hgr hat)
      have HO3 := hidP hown
      have HB3 := hidP (below_app HBx.out HOx.out hBr hgr)
      clear hown hgr hat
      go_wp2_with fail
      go_roundw
      case rel =>
        refine ⟨k + 1, g3, c3, by omega, by go_num, ?_, ?_, HB3.out⟩
        · rw [HX.out, List.length_append]
        · rw [HX.out, List.length_append]; exact HO3.out
      case measure => simp [intOf]; omega
    · have he := manyB_all poolB xs k (by have := HN.out; omega)
      rw [he, ← HZ.out] at HOw ⊢
      have hkn : k = n := by omega
      clear hown hbel he
      go_wp2_with fail
      go_ret
      exact ⟨g', c', rfl, HOw.out, HBl.out⟩

set_option maxRecDepth 10000 in
set_option maxHeartbeats 4000000 in
theorem putRowsBk_any (a : Option Addr) (n c : Nat) (xs : List Bk) (w : World) (hn : n = xs.length) (hR : RowG KBk w a xs) (hB : ∀ x ∈ xs, (blockB x).length ≤ 1000) (hT : ∀ q ∈ xs, q.t.size ≤ 1048576) (hl : n ≤ 1000) :
    Calls Tryz.prog 33 #[.slice a n c, .func (.func 34) #[] #[]] w fun e w' => ∃ g c, e = .returned (.slice (some ⟨g, 0, none⟩) (rowsB blockB xs).length c) ∧ Own w' w.heap.size (.slice (some ⟨g, 0, none⟩) (rowsB blockB xs).length c) (rowsB blockB xs) ∧ Below w.heap.size w w' := by
  have HR := hidP hR
  have HN := hidP hn
  have HB := hidP hB
  have HF := hidP (fun q ht W => putBlock_any q ht W)
  have HZ : Hid (rowsB blockB xs = numB (u64 (n : Int)) ++ manyB blockB xs) := hidP (by rw [hn]; rfl)
  have HY := hidP (numB_ten _ (u64_lt (n : Int)))
  have HY0 := hidP (numB_pos (u64 (n : Int)))
  have HPn := hidP (iPutNum_any (n : Int))
  have HT := hidP hT
  clear hR hn hB hT
  generalize rowsB blockB xs = ZZ at *
  generalize numB (u64 (n : Int)) = Y at *
  go_enter Tryz.func33, Tryz.ntmps33
  go_wp2_with fail
  refine (HPn.out _).mono ?_
  rintro e w1 ⟨a1, c1, rfl, o1, b1⟩
  obtain ⟨g1, rfl, _, _⟩ := o1.head HY0.out
  have HO1 := hidP o1
  have HB1 := hidP b1
  clear o1 b1 HPn
  go_wp2_with fail
  go_loopw [5, 13] (fun t5 t13 wr => ∃ (k g' c' : Nat), k ≤ n ∧ t13 = .int .i64 k ∧ t5 = .slice (some ⟨g', 0, none⟩) (Y ++ manyB blockB (xs.take k)).length c' ∧ Own wr w.heap.size (.slice (some ⟨g', 0, none⟩) (Y ++ manyB blockB (xs.take k)).length c') (Y ++ manyB blockB (xs.take k)) ∧ Below w.heap.size w wr) (fun _ t13 _ => n - (intOf t13).toNat)
  case atStart => exact ⟨0, g1, c1, Nat.zero_le _, rfl, by simp [manyB], by simpa [manyB] using HO1.out, HB1.out⟩
  case round =>
    obtain ⟨k, g', c', hk, rfl, rfl, hown, hbel⟩ := hrel
    have HOw := hidP hown
    have HBl := hidP hbel
    have hsz := hbel.size
    by_cases hlt : k < n
    · obtain ⟨p, o, q, rfl, hp, hq, c0, c1, c2, c3, c4⟩ := rowBk HR.out k (by have := HN.out; omega)
      have d0 := (hbel.cell hp).trans c0
      have d1 := (hbel.cell hp).trans c1
      have d2 := (hbel.cell hp).trans c2
      have d3 := (hbel.cell hp).trans c3
      have d4 := (hbel.cell hp).trans c4
      have hpw : p < wr.heap.size := Nat.lt_of_lt_of_le hp hbel.size
      have k0 : (0 : Int) ≤ (k : Int) := by omega
      have k1 : (k : Int) < (n : Int) := by omega
      have HX := hidP (show Y ++ manyB blockB (xs.take (k + 1)) = (Y ++ manyB blockB (xs.take k)) ++ blockB q by rw [manyB_at blockB xs k q hq, List.append_assoc])
      have HLk := hidP (show (Y ++ manyB blockB (xs.take k)).length ≤ 1000010 by
        rw [List.length_append]
        have h1 := manyB_le blockB 1000 xs k HB.out
        have h2 := HY.out
        have h3 : xs.length * 1000 ≤ 1000 * 1000 := Nat.mul_le_mul_right 1000 (by have := HN.out; omega)
        omega)
      have HQ := hidP (HB.out q (List.mem_of_getElem? hq))
      have HPq := hidP (fun W => HF.out q (HT.out q (List.mem_of_getElem? hq)) W)
      generalize Y ++ manyB blockB (xs.take k) = V at *
      generalize blockB q = U at *
      clear hown hbel hq c0 c1 c2 c3 c4 HF
      go_wp2_with fail
      have mB := hidP (alloc_below wr (.cells #[.bool q.p.s, .int .i64 q.p.H.toInt, .int .i64 q.p.L.toInt, .int .i64 q.p.b, .string q.t] 71))
      have mS : (wr.alloc (.cells #[.bool q.p.s, .int .i64 q.p.H.toInt, .int .i64 q.p.L.toInt, .int .i64 q.p.b, .string q.t] 71)).heap.size = wr.heap.size + 1 := by simp
      refine (HPq.out _).mono ?_
      rintro e w2 ⟨g2, c2, rfl, o2, b2⟩
      have HO2 := hidP o2
      have HOx := hidP ((HOw.out.later mB.out).later b2)
      have HBx := hidP (HBl.out.trans (((mB.out.trans (b2.mono mB.out.size))).mono hsz))
      have hBr : w.heap.size ≤ w2.heap.size := HBx.out.size
      clear o2 b2 mB mS d0 d1 d2 d3 d4
      go_wp2_with (at_builtin; refine wpList_app _ rfl (.tmp 17) (.tmp 20) 35 rfl w.heap.size g' V.length c' V U _ _ rfl rfl rfl HOx.out rfl (src_own HO2.out) (by have := HLk.out; have := HQ.out; omega) hBr ?_; intro g3 c3 w3 hown hgr hat)
      have HO3 := hidP hown
      have HB3 := hidP (below_app HBx.out HOx.out hBr hgr)
      clear hown hgr hat
      go_wp2_with fail
      go_roundw
      case rel =>
        refine ⟨k + 1, g3, c3, by omega, by go_num, ?_, ?_, HB3.out⟩
        · rw [HX.out, List.length_append]
        · rw [HX.out, List.length_append]; exact HO3.out
      case measure => simp [intOf]; omega
    · have he := manyB_all blockB xs k (by have := HN.out; omega)
      rw [he, ← HZ.out] at HOw ⊢
      have hkn : k = n := by omega
      clear hown hbel he
      go_wp2_with fail
      go_ret
      exact ⟨g', c', rfl, HOw.out, HBl.out⟩

set_option maxRecDepth 10000 in
set_option maxHeartbeats 4000000 in
theorem putRowsLs_any (a : Option Addr) (n c : Nat) (xs : List Ls) (w : World) (hn : n = xs.length) (hR : RowG KLs w a xs) (hB : ∀ x ∈ xs, (leaseB x).length ≤ 1000) (hT : ∀ q ∈ xs, q.t.size ≤ 1048576) (hl : n ≤ 1000) :
    Calls Tryz.prog 36 #[.slice a n c, .func (.func 37) #[] #[]] w fun e w' => ∃ g c, e = .returned (.slice (some ⟨g, 0, none⟩) (rowsB leaseB xs).length c) ∧ Own w' w.heap.size (.slice (some ⟨g, 0, none⟩) (rowsB leaseB xs).length c) (rowsB leaseB xs) ∧ Below w.heap.size w w' := by
  have HR := hidP hR
  have HN := hidP hn
  have HB := hidP hB
  have HF := hidP (fun q ht W => putLease_any q ht W)
  have HZ : Hid (rowsB leaseB xs = numB (u64 (n : Int)) ++ manyB leaseB xs) := hidP (by rw [hn]; rfl)
  have HY := hidP (numB_ten _ (u64_lt (n : Int)))
  have HY0 := hidP (numB_pos (u64 (n : Int)))
  have HPn := hidP (iPutNum_any (n : Int))
  have HT := hidP hT
  clear hR hn hB hT
  generalize rowsB leaseB xs = ZZ at *
  generalize numB (u64 (n : Int)) = Y at *
  go_enter Tryz.func36, Tryz.ntmps36
  go_wp2_with fail
  refine (HPn.out _).mono ?_
  rintro e w1 ⟨a1, c1, rfl, o1, b1⟩
  obtain ⟨g1, rfl, _, _⟩ := o1.head HY0.out
  have HO1 := hidP o1
  have HB1 := hidP b1
  clear o1 b1 HPn
  go_wp2_with fail
  go_loopw [5, 13] (fun t5 t13 wr => ∃ (k g' c' : Nat), k ≤ n ∧ t13 = .int .i64 k ∧ t5 = .slice (some ⟨g', 0, none⟩) (Y ++ manyB leaseB (xs.take k)).length c' ∧ Own wr w.heap.size (.slice (some ⟨g', 0, none⟩) (Y ++ manyB leaseB (xs.take k)).length c') (Y ++ manyB leaseB (xs.take k)) ∧ Below w.heap.size w wr) (fun _ t13 _ => n - (intOf t13).toNat)
  case atStart => exact ⟨0, g1, c1, Nat.zero_le _, rfl, by simp [manyB], by simpa [manyB] using HO1.out, HB1.out⟩
  case round =>
    obtain ⟨k, g', c', hk, rfl, rfl, hown, hbel⟩ := hrel
    have HOw := hidP hown
    have HBl := hidP hbel
    have hsz := hbel.size
    by_cases hlt : k < n
    · obtain ⟨p, o, q, rfl, hp, hq, c0, c1, c2, c3, c4, c5⟩ := rowLs HR.out k (by have := HN.out; omega)
      have d0 := (hbel.cell hp).trans c0
      have d1 := (hbel.cell hp).trans c1
      have d2 := (hbel.cell hp).trans c2
      have d3 := (hbel.cell hp).trans c3
      have d4 := (hbel.cell hp).trans c4
      have d5 := (hbel.cell hp).trans c5
      have hpw : p < wr.heap.size := Nat.lt_of_lt_of_le hp hbel.size
      have k0 : (0 : Int) ≤ (k : Int) := by omega
      have k1 : (k : Int) < (n : Int) := by omega
      have HX := hidP (show Y ++ manyB leaseB (xs.take (k + 1)) = (Y ++ manyB leaseB (xs.take k)) ++ leaseB q by rw [manyB_at leaseB xs k q hq, List.append_assoc])
      have HLk := hidP (show (Y ++ manyB leaseB (xs.take k)).length ≤ 1000010 by
        rw [List.length_append]
        have h1 := manyB_le leaseB 1000 xs k HB.out
        have h2 := HY.out
        have h3 : xs.length * 1000 ≤ 1000 * 1000 := Nat.mul_le_mul_right 1000 (by have := HN.out; omega)
        omega)
      have HQ := hidP (HB.out q (List.mem_of_getElem? hq))
      have HPq := hidP (fun W => HF.out q (HT.out q (List.mem_of_getElem? hq)) W)
      generalize Y ++ manyB leaseB (xs.take k) = V at *
      generalize leaseB q = U at *
      clear hown hbel hq c0 c1 c2 c3 c4 c5 HF
      go_wp2_with fail
      have mB := hidP (alloc_below wr (.cells #[.bool q.a.s, .int .i64 q.a.H.toInt, .int .i64 q.a.L.toInt, .string q.t, .int .i64 q.k, .int .i64 q.u] 74))
      have mS : (wr.alloc (.cells #[.bool q.a.s, .int .i64 q.a.H.toInt, .int .i64 q.a.L.toInt, .string q.t, .int .i64 q.k, .int .i64 q.u] 74)).heap.size = wr.heap.size + 1 := by simp
      refine (HPq.out _).mono ?_
      rintro e w2 ⟨g2, c2, rfl, o2, b2⟩
      have HO2 := hidP o2
      have HOx := hidP ((HOw.out.later mB.out).later b2)
      have HBx := hidP (HBl.out.trans (((mB.out.trans (b2.mono mB.out.size))).mono hsz))
      have hBr : w.heap.size ≤ w2.heap.size := HBx.out.size
      clear o2 b2 mB mS d0 d1 d2 d3 d4 d5
      go_wp2_with (at_builtin; refine wpList_app _ rfl (.tmp 17) (.tmp 20) 35 rfl w.heap.size g' V.length c' V U _ _ rfl rfl rfl HOx.out rfl (src_own HO2.out) (by have := HLk.out; have := HQ.out; omega) hBr ?_; intro g3 c3 w3 hown hgr hat)
      have HO3 := hidP hown
      have HB3 := hidP (below_app HBx.out HOx.out hBr hgr)
      clear hown hgr hat
      go_wp2_with fail
      go_roundw
      case rel =>
        refine ⟨k + 1, g3, c3, by omega, by go_num, ?_, ?_, HB3.out⟩
        · rw [HX.out, List.length_append]
        · rw [HX.out, List.length_append]; exact HO3.out
      case measure => simp [intOf]; omega
    · have he := manyB_all leaseB xs k (by have := HN.out; omega)
      rw [he, ← HZ.out] at HOw ⊢
      have hkn : k = n := by omega
      clear hown hbel he
      go_wp2_with fail
      go_ret
      exact ⟨g', c', rfl, HOw.out, HBl.out⟩

set_option maxRecDepth 10000 in
set_option maxHeartbeats 4000000 in
theorem putRowsSs_any (a : Option Addr) (n c : Nat) (xs : List Ss) (w : World) (hn : n = xs.length) (hR : RowG KSs w a xs) (hB : ∀ x ∈ xs, (sessB x).length ≤ 1000) (hT : ∀ q ∈ xs, q.t.size ≤ 1048576) (hl : n ≤ 1000) :
    Calls Tryz.prog 38 #[.slice a n c, .func (.func 39) #[] #[]] w fun e w' => ∃ g c, e = .returned (.slice (some ⟨g, 0, none⟩) (rowsB sessB xs).length c) ∧ Own w' w.heap.size (.slice (some ⟨g, 0, none⟩) (rowsB sessB xs).length c) (rowsB sessB xs) ∧ Below w.heap.size w w' := by
  have HR := hidP hR
  have HN := hidP hn
  have HB := hidP hB
  have HF := hidP (fun q ht W => putSession_any q ht W)
  have HZ : Hid (rowsB sessB xs = numB (u64 (n : Int)) ++ manyB sessB xs) := hidP (by rw [hn]; rfl)
  have HY := hidP (numB_ten _ (u64_lt (n : Int)))
  have HY0 := hidP (numB_pos (u64 (n : Int)))
  have HPn := hidP (iPutNum_any (n : Int))
  have HT := hidP hT
  clear hR hn hB hT
  generalize rowsB sessB xs = ZZ at *
  generalize numB (u64 (n : Int)) = Y at *
  go_enter Tryz.func38, Tryz.ntmps38
  go_wp2_with fail
  refine (HPn.out _).mono ?_
  rintro e w1 ⟨a1, c1, rfl, o1, b1⟩
  obtain ⟨g1, rfl, _, _⟩ := o1.head HY0.out
  have HO1 := hidP o1
  have HB1 := hidP b1
  clear o1 b1 HPn
  go_wp2_with fail
  go_loopw [5, 13] (fun t5 t13 wr => ∃ (k g' c' : Nat), k ≤ n ∧ t13 = .int .i64 k ∧ t5 = .slice (some ⟨g', 0, none⟩) (Y ++ manyB sessB (xs.take k)).length c' ∧ Own wr w.heap.size (.slice (some ⟨g', 0, none⟩) (Y ++ manyB sessB (xs.take k)).length c') (Y ++ manyB sessB (xs.take k)) ∧ Below w.heap.size w wr) (fun _ t13 _ => n - (intOf t13).toNat)
  case atStart => exact ⟨0, g1, c1, Nat.zero_le _, rfl, by simp [manyB], by simpa [manyB] using HO1.out, HB1.out⟩
  case round =>
    obtain ⟨k, g', c', hk, rfl, rfl, hown, hbel⟩ := hrel
    have HOw := hidP hown
    have HBl := hidP hbel
    have hsz := hbel.size
    by_cases hlt : k < n
    · obtain ⟨p, o, q, rfl, hp, hq, c0, c1, c2, c3⟩ := rowSs HR.out k (by have := HN.out; omega)
      have d0 := (hbel.cell hp).trans c0
      have d1 := (hbel.cell hp).trans c1
      have d2 := (hbel.cell hp).trans c2
      have d3 := (hbel.cell hp).trans c3
      have hpw : p < wr.heap.size := Nat.lt_of_lt_of_le hp hbel.size
      have k0 : (0 : Int) ≤ (k : Int) := by omega
      have k1 : (k : Int) < (n : Int) := by omega
      have HX := hidP (show Y ++ manyB sessB (xs.take (k + 1)) = (Y ++ manyB sessB (xs.take k)) ++ sessB q by rw [manyB_at sessB xs k q hq, List.append_assoc])
      have HLk := hidP (show (Y ++ manyB sessB (xs.take k)).length ≤ 1000010 by
        rw [List.length_append]
        have h1 := manyB_le sessB 1000 xs k HB.out
        have h2 := HY.out
        have h3 : xs.length * 1000 ≤ 1000 * 1000 := Nat.mul_le_mul_right 1000 (by have := HN.out; omega)
        omega)
      have HQ := hidP (HB.out q (List.mem_of_getElem? hq))
      have HPq := hidP (fun W => HF.out q (HT.out q (List.mem_of_getElem? hq)) W)
      generalize Y ++ manyB sessB (xs.take k) = V at *
      generalize sessB q = U at *
      clear hown hbel hq c0 c1 c2 c3 HF
      go_wp2_with fail
      have mB := hidP (alloc_below wr (.cells #[.int .i64 q.i, .int .i64 q.l, .string q.t, .int .i64 q.u] 77))
      have mS : (wr.alloc (.cells #[.int .i64 q.i, .int .i64 q.l, .string q.t, .int .i64 q.u] 77)).heap.size = wr.heap.size + 1 := by simp
      refine (HPq.out _).mono ?_
      rintro e w2 ⟨g2, c2, rfl, o2, b2⟩
      have HO2 := hidP o2
      have HOx := hidP ((HOw.out.later mB.out).later b2)
      have HBx := hidP (HBl.out.trans (((mB.out.trans (b2.mono mB.out.size))).mono hsz))
      have hBr : w.heap.size ≤ w2.heap.size := HBx.out.size
      clear o2 b2 mB mS d0 d1 d2 d3
      go_wp2_with (at_builtin; refine wpList_app _ rfl (.tmp 17) (.tmp 20) 35 rfl w.heap.size g' V.length c' V U _ _ rfl rfl rfl HOx.out rfl (src_own HO2.out) (by have := HLk.out; have := HQ.out; omega) hBr ?_; intro g3 c3 w3 hown hgr hat)
      have HO3 := hidP hown
      have HB3 := hidP (below_app HBx.out HOx.out hBr hgr)
      clear hown hgr hat
      go_wp2_with fail
      go_roundw
      case rel =>
        refine ⟨k + 1, g3, c3, by omega, by go_num, ?_, ?_, HB3.out⟩
        · rw [HX.out, List.length_append]
        · rw [HX.out, List.length_append]; exact HO3.out
      case measure => simp [intOf]; omega
    · have he := manyB_all sessB xs k (by have := HN.out; omega)
      rw [he, ← HZ.out] at HOw ⊢
      have hkn : k = n := by omega
      clear hown hbel he
      go_wp2_with fail
      go_ret
      exact ⟨g', c', rfl, HOw.out, HBl.out⟩

end Go.Proofs.YtngcbhbcocnbeaaGreat
namespace Go.Proofs.YtngcbhbcocnbeaaGreat
open Go.RowKit

structure PsF (I17 Z2 Z6 Z10 Z18 Z22 Z26 Z30 Zf : List Int) (B : Nat) (b2 b6 b10 b17 b18 b22 b26 b30 b31 b32 b33 : Bool) (v10 v14 v18 v25 v26 v30 v34 v38 v39 v40 v3 : Value) (w : World) : Prop where
  f2 : b2 = true → BytRow w v10 Z2
  f6 : b6 = true → BytRow w v14 Z6
  f10 : b10 = true → BytRow w v18 Z10
  f17 : b17 = true → IntRow w v25 I17
  f18 : b18 = true → BytRow w v26 Z18
  f22 : b22 = true → BytRow w v30 Z22
  f26 : b26 = true → BytRow w v34 Z26
  f30 : b30 = true → BytRow w v38 Z30
  f31 : b31 = true → ∃ g, v39 = .slice (some ⟨g, 0, none⟩) 7 7 ∧ g < w.heap.size ∧ Rws w g [Z2, Z6, Z10, Z18, Z22, Z26, Z30]
  f32 : b32 = true → ∃ g c, v40 = .slice (some ⟨g, 0, none⟩) Zf.length c ∧ Own w B (.slice (some ⟨g, 0, none⟩) Zf.length c) Zf
  f33 : b33 = true → b32 = true ∧ v3 = v40
theorem PsF.later {I17 Z2 Z6 Z10 Z18 Z22 Z26 Z30 Zf : List Int} {B : Nat} {b2 b6 b10 b17 b18 b22 b26 b30 b31 b32 b33 : Bool} {v10 v14 v18 v25 v26 v30 v34 v38 v39 v40 v3 : Value} {w w' : World} (h : PsF I17 Z2 Z6 Z10 Z18 Z22 Z26 Z30 Zf B b2 b6 b10 b17 b18 b22 b26 b30 b31 b32 b33 v10 v14 v18 v25 v26 v30 v34 v38 v39 v40 v3 w) (hb : Below w.heap.size w w') : PsF I17 Z2 Z6 Z10 Z18 Z22 Z26 Z30 Zf B b2 b6 b10 b17 b18 b22 b26 b30 b31 b32 b33 v10 v14 v18 v25 v26 v30 v34 v38 v39 v40 v3 w' where
  f2 := fun e => (h.f2 e).later hb
  f6 := fun e => (h.f6 e).later hb
  f10 := fun e => (h.f10 e).later hb
  f17 := fun e => (h.f17 e).later hb
  f18 := fun e => (h.f18 e).later hb
  f22 := fun e => (h.f22 e).later hb
  f26 := fun e => (h.f26 e).later hb
  f30 := fun e => (h.f30 e).later hb
  f31 := fun e => by
    obtain ⟨g, h1, h2, h3⟩ := h.f31 e
    exact ⟨g, h1, Nat.lt_of_lt_of_le h2 hb.size, h3.later h2 hb⟩
  f32 := fun e => by
    obtain ⟨g, c, h1, h2⟩ := h.f32 e
    exact ⟨g, c, h1, h2.later hb⟩
  f33 := h.f33
set_option maxRecDepth 20000 in
set_option maxHeartbeats 16000000 in
theorem iPutS_yes (ap : Option Addr) (np cp : Nat) (ab : Option Addr) (nb cb : Nat) (al : Option Addr) (nl cl : Nat) (T N : Int) (aS : Option Addr) (ns cs : Nat) (X C : Int) (ps : List Pl) (bs : List Bk) (ls : List Ls) (ss : List Ss) (w : World) (hnp : np = ps.length) (hnb : nb = bs.length) (hnl : nl = ls.length) (hns : ns = ss.length) (hP : RowG KPl w ap ps) (hK : RowG KBk w ab bs) (hL : RowG KLs w al ls) (hS : RowG KSs w aS ss) (ht : Bnd ps bs ls ss) (Zf : List Int) (hZf : (partsB ps bs ls T N ss X C).flatten = Zf) (hz0 : 0 < Zf.length) (hz : Zf.length ≤ 18000)
    (hr : ∀ W : World, Below w.heap.size w W → Calls Tryz.prog 28 #[.agg #[.slice ap np cp, .slice ab nb cb, .slice al nl cl, .int .i64 T, .int .i64 N, .slice aS ns cs, .int .i64 X, .int .i64 C]] W fun e w' => e = .returned (.bool true) ∧ Below W.heap.size W w') :
    Calls Tryz.prog 8 #[.agg #[.slice ap np cp, .slice ab nb cb, .slice al nl cl, .int .i64 T, .int .i64 N, .slice aS ns cs, .int .i64 X, .int .i64 C]] w fun e w' => ∃ g c, e = .returned (.slice (some ⟨g, 0, none⟩) Zf.length c) ∧ Own w' w.heap.size (.slice (some ⟨g, 0, none⟩) Zf.length c) Zf ∧ Below w.heap.size w w' := by
  have HR := hidP hr
  have HZf : Hid ([numB (u64 C), rowsB poolB ps, rowsB blockB bs, numsB [T, N], rowsB leaseB ls, numB (u64 X), rowsB sessB ss].flatten = Zf) := hidP hZf
  have HZ : Hid (0 < ([numB (u64 C), rowsB poolB ps, rowsB blockB bs, numsB [T, N], rowsB leaseB ls, numB (u64 X), rowsB sessB ss].flatten).length ∧ ([numB (u64 C), rowsB poolB ps, rowsB blockB bs, numsB [T, N], rowsB leaseB ls, numB (u64 X), rowsB sessB ss].flatten).length ≤ 2000000) := hidP (by rw [HZf.out]; exact ⟨hz0, by omega⟩)
  have HC0 := hidP (iPutNum_any C)
  have HC5 := hidP (iPutNum_any X)
  have b1 : np ≤ 1000 := by have := ht.p; omega
  have b2 : nb ≤ 1000 := by have := ht.b; omega
  have b4 : nl ≤ 1000 := by have := ht.l; omega
  have b6 : ns ≤ 1000 := by have := ht.s; omega
  have HC1 := hidP (fun W h => putRowsPl_any ap np cp ps W hnp (hP.later h) (fun q _ => by have := poolB_len q; omega) b1)
  have HC2 := hidP (fun W h => putRowsBk_any ab nb cb bs W hnb (hK.later h) (fun q hq => by have := blockB_len q (ht.tb q hq); omega) (fun q hq => by have := ht.tb q hq; omega) b2)
  have HC4 := hidP (fun W h => putRowsLs_any al nl cl ls W hnl (hL.later h) (fun q hq => by have := leaseB_len q (ht.tl q hq); omega) (fun q hq => by have := ht.tl q hq; omega) b4)
  have HC6 := hidP (fun W h => putRowsSs_any aS ns cs ss W hns (hS.later h) (fun q hq => by have := sessB_len q (ht.ts q hq); omega) (fun q hq => by have := ht.ts q hq; omega) b6)
  have hvl : ¬ ((18000 : Int) < (Zf.length : Int)) := by omega
  have hvd : decide ((Zf.length : Int) > 18000) = false := decide_eq_false (by omega)
  clear hr hP hK hL hS hnp hnb hnl hns ht hZf hz hz0 b1 b2 b4 b6
  go_enter Tryz.func8, Tryz.ntmps8
  go_wp2_with fail
  obtain ⟨x0, x1, x2, x3, x4, x5, x6, x7⟩ := bx8 w 48 (.slice ap np cp) (.slice ab nb cb) (.slice al nl cl) (.int .i64 T) (.int .i64 N) (.slice aS ns cs) (.int .i64 X) (.int .i64 C)
  have xB := hidP (alloc_below w (.cells #[.slice ap np cp, .slice ab nb cb, .slice al nl cl, .int .i64 T, .int .i64 N, .slice aS ns cs, .int .i64 X, .int .i64 C] 48))
  have xL : w.heap.size < (w.alloc (.cells #[.slice ap np cp, .slice ab nb cb, .slice al nl cl, .int .i64 T, .int .i64 N, .slice aS ns cs, .int .i64 X, .int .i64 C] 48)).heap.size := by simp
  generalize w.alloc (.cells #[.slice ap np cp, .slice ab nb cb, .slice al nl cl, .int .i64 T, .int .i64 N, .slice aS ns cs, .int .i64 X, .int .i64 C] 48) = W1 at *
  refine (HR.out _ xB.out).mono ?_
  rintro e W ⟨rfl, hb⟩
  have y0 := (hb.cell xL).trans x0
  have y1 := (hb.cell xL).trans x1
  have y2 := (hb.cell xL).trans x2
  have y3 := (hb.cell xL).trans x3
  have y4 := (hb.cell xL).trans x4
  have y5 := (hb.cell xL).trans x5
  have y6 := (hb.cell xL).trans x6
  have y7 := (hb.cell xL).trans x7
  have yL : w.heap.size < W.heap.size := Nat.lt_of_lt_of_le xL hb.size
  have HW := hidP (xB.out.trans (hb.mono xB.out.size))
  clear hb xB xL x0 x1 x2 x3 x4 x5 x6 x7 HR
  go_wp2_with fail
  have HSx : Hid (∀ x, Below W.heap.size W x → (x.cell? ⟨w.heap.size, 0, none⟩ = some (.slice ap np cp) ∧ x.cell? ⟨w.heap.size, 1, none⟩ = some (.slice ab nb cb) ∧ x.cell? ⟨w.heap.size, 2, none⟩ = some (.slice al nl cl) ∧ x.cell? ⟨w.heap.size, 3, none⟩ = some (.int .i64 T) ∧ x.cell? ⟨w.heap.size, 4, none⟩ = some (.int .i64 N) ∧ x.cell? ⟨w.heap.size, 5, none⟩ = some (.slice aS ns cs) ∧ x.cell? ⟨w.heap.size, 6, none⟩ = some (.int .i64 X) ∧ x.cell? ⟨w.heap.size, 7, none⟩ = some (.int .i64 C) ∧ Below W.heap.size W x)) := hidP fun x h =>
    ⟨(h.cell yL).trans y0, (h.cell yL).trans y1, (h.cell yL).trans y2, (h.cell yL).trans y3, (h.cell yL).trans y4, (h.cell yL).trans y5, (h.cell yL).trans y6, (h.cell yL).trans y7, h⟩
  refine wp_region_held_drew (S := (fun x => x.cell? ⟨w.heap.size, 0, none⟩ = some (.slice ap np cp) ∧ x.cell? ⟨w.heap.size, 1, none⟩ = some (.slice ab nb cb) ∧ x.cell? ⟨w.heap.size, 2, none⟩ = some (.slice al nl cl) ∧ x.cell? ⟨w.heap.size, 3, none⟩ = some (.int .i64 T) ∧ x.cell? ⟨w.heap.size, 4, none⟩ = some (.int .i64 N) ∧ x.cell? ⟨w.heap.size, 5, none⟩ = some (.slice aS ns cs) ∧ x.cell? ⟨w.heap.size, 6, none⟩ = some (.int .i64 X) ∧ x.cell? ⟨w.heap.size, 7, none⟩ = some (.int .i64 C) ∧ Below W.heap.size W x)) (by kernel_rfl) ?_ (fun hHeld => ?_)
  · try dsimp only
    exact HSx.out _ (Below.refl _ _).drew
  refine tk 0 8 rfl ?_; simp only [pa]
  refine tk 1 9 rfl ?_; simp only [pa]
  refine tk 3 11 rfl ?_; simp only [pa]
  refine tk 4 12 rfl ?_; simp only [pa]
  refine tk 5 13 rfl ?_; simp only [pa]
  refine tk 7 15 rfl ?_; simp only [pa]
  refine tk 8 16 rfl ?_; simp only [pa]
  refine tk 9 17 rfl ?_; simp only [pa]
  refine tk 11 19 rfl ?_; simp only [pa]
  refine tk 12 20 rfl ?_; simp only [pa]
  refine tk 13 21 rfl ?_; simp only [pa]
  refine tk 14 22 rfl ?_; simp only [pa]
  refine tk 15 23 rfl ?_; simp only [pa]
  refine tk 16 24 rfl ?_; simp only [pa]
  refine tk 19 27 rfl ?_; simp only [pa]
  refine tk 20 28 rfl ?_; simp only [pa]
  refine tk 21 29 rfl ?_; simp only [pa]
  refine tk 23 31 rfl ?_; simp only [pa]
  refine tk 24 32 rfl ?_; simp only [pa]
  refine tk 25 33 rfl ?_; simp only [pa]
  refine tk 27 35 rfl ?_; simp only [pa]
  refine tk 28 36 rfl ?_; simp only [pa]
  refine tk 29 37 rfl ?_; simp only [pa]
  have hWB : w.heap.size ≤ W.heap.size := HW.out.size
  clear y0 y1 y2 y3 y4 y5 y6 y7
  refine run_inv (fun A listed a x => ∃ (b2 b6 b10 b17 b18 b22 b26 b30 b31 b32 b33 : Bool) (v10 v14 v18 v25 v26 v30 v34 v38 v39 v40 v3 : Value), listed = #[true, true, b2, true, true, true, b6, true, true, true, b10, true, true, true, true, true, true, b17, b18, true, true, true, b22, true, true, true, b26, true, true, true, b30, b31, b32, b33] ∧ a = (((((((((((A.put (some 10) v10).put (some 14) v14).put (some 18) v18).put (some 25) v25).put (some 26) v26).put (some 30) v30).put (some 34) v34).put (some 38) v38).put (some 39) v39).put (some 40) v40).put (some 3) v3) ∧ PsF [T, N] (numB (u64 C)) (rowsB poolB ps) (rowsB blockB bs) (numsB [T, N]) (rowsB leaseB ls) (numB (u64 X)) (rowsB sessB ss) Zf W.heap.size b2 b6 b10 b17 b18 b22 b26 b30 b31 b32 b33 v10 v14 v18 v25 v26 v30 v34 v38 v39 v40 v3 x) (by decide) hHeld ?_ ?_ ?_
  · refine ⟨false, false, false, false, false, false, false, false, false, false, false, undef, undef, undef, undef, undef, undef, undef, undef, undef, undef, undef, rfl, by simp only [pa], ?_⟩
    exact { f2 := (fun e => by cases e), f6 := (fun e => by cases e), f10 := (fun e => by cases e), f17 := (fun e => by cases e), f18 := (fun e => by cases e), f22 := (fun e => by cases e), f26 := (fun e => by cases e), f30 := (fun e => by cases e), f31 := (fun e => by cases e), f32 := (fun e => by cases e), f33 := (fun e => by cases e) }
  · rintro listed a x i ⟨b2, b6, b10, b17, b18, b22, b26, b30, b31, b32, b33, v10, v14, v18, v25, v26, v30, v34, v38, v39, v40, v3, rfl, rfl, hF⟩ hHeld hi
    have HF := hidP hF
    have hun := ready_un hi
    have hlt := ready_lt hi
    have hSB := hidP (hHeld.2.2.2.2.2.2.2.2)
    clear hF
    match i, hlt with
    | 0, _ => exact absurd hun (by simp)
    | 1, _ => exact absurd hun (by simp)
    | 2, _ =>
      have e2 : b2 = false := hun
      subst e2
      refine wpOp_step rfl (fun K hK0 => ?_)
      have hK := (show Shut _ from hK0)
      clear hK0
      simp only [pa]
      go_simp
      go_wp2_with (first | (go_at_call 30; refine (HC0.out _).mono ?_; rintro e x2 ⟨a2, c2, rfl, o2, hb2⟩))
      refine hK.out _ _ ⟨?_, ?_⟩
      · exact HSx.out _ (hSB.out.trans ((hb2).mono hSB.out.size))
      · refine ⟨true, b6, b10, b17, b18, b22, b26, b30, b31, b32, b33, _, _, _, _, _, _, _, _, _, _, _, rfl, by simp only [pa]; rfl, ?_⟩
        exact { f2 := fun _ => BytRow.own o2, f6 := (PsF.later HF.out (hb2)).f6, f10 := (PsF.later HF.out (hb2)).f10, f17 := (PsF.later HF.out (hb2)).f17, f18 := (PsF.later HF.out (hb2)).f18, f22 := (PsF.later HF.out (hb2)).f22, f26 := (PsF.later HF.out (hb2)).f26, f30 := (PsF.later HF.out (hb2)).f30, f31 := (PsF.later HF.out (hb2)).f31, f32 := (PsF.later HF.out (hb2)).f32, f33 := HF.out.f33 }
    | 3, _ => exact absurd hun (by simp)
    | 4, _ => exact absurd hun (by simp)
    | 5, _ => exact absurd hun (by simp)
    | 6, _ =>
      have e6 : b6 = false := hun
      subst e6
      have e2 : b2 = true := ready_dep 2 hi (by kernel_rfl)
      subst e2
      refine wpOp_step rfl (fun K hK0 => ?_)
      have hK := (show Shut _ from hK0)
      clear hK0
      simp only [pa]
      go_simp
      go_wp2_with (first | (go_at_call 31; refine (HC1.out _ (HW.out.trans (hSB.out.mono HW.out.size))).mono ?_; rintro e x2 ⟨a2, c2, rfl, o2, hb2⟩))
      refine hK.out _ _ ⟨?_, ?_⟩
      · exact HSx.out _ (hSB.out.trans ((hb2).mono hSB.out.size))
      · refine ⟨true, true, b10, b17, b18, b22, b26, b30, b31, b32, b33, _, _, _, _, _, _, _, _, _, _, _, rfl, by simp only [pa]; rfl, ?_⟩
        exact { f2 := (PsF.later HF.out (hb2)).f2, f6 := fun _ => BytRow.own o2, f10 := (PsF.later HF.out (hb2)).f10, f17 := (PsF.later HF.out (hb2)).f17, f18 := (PsF.later HF.out (hb2)).f18, f22 := (PsF.later HF.out (hb2)).f22, f26 := (PsF.later HF.out (hb2)).f26, f30 := (PsF.later HF.out (hb2)).f30, f31 := (PsF.later HF.out (hb2)).f31, f32 := (PsF.later HF.out (hb2)).f32, f33 := HF.out.f33 }
    | 7, _ => exact absurd hun (by simp)
    | 8, _ => exact absurd hun (by simp)
    | 9, _ => exact absurd hun (by simp)
    | 10, _ =>
      have e10 : b10 = false := hun
      subst e10
      have e6 : b6 = true := ready_dep 6 hi (by kernel_rfl)
      subst e6
      refine wpOp_step rfl (fun K hK0 => ?_)
      have hK := (show Shut _ from hK0)
      clear hK0
      simp only [pa]
      go_simp
      go_wp2_with (first | (go_at_call 33; refine (HC2.out _ (HW.out.trans (hSB.out.mono HW.out.size))).mono ?_; rintro e x2 ⟨a2, c2, rfl, o2, hb2⟩))
      refine hK.out _ _ ⟨?_, ?_⟩
      · exact HSx.out _ (hSB.out.trans ((hb2).mono hSB.out.size))
      · refine ⟨b2, true, true, b17, b18, b22, b26, b30, b31, b32, b33, _, _, _, _, _, _, _, _, _, _, _, rfl, by simp only [pa]; rfl, ?_⟩
        exact { f2 := (PsF.later HF.out (hb2)).f2, f6 := (PsF.later HF.out (hb2)).f6, f10 := fun _ => BytRow.own o2, f17 := (PsF.later HF.out (hb2)).f17, f18 := (PsF.later HF.out (hb2)).f18, f22 := (PsF.later HF.out (hb2)).f22, f26 := (PsF.later HF.out (hb2)).f26, f30 := (PsF.later HF.out (hb2)).f30, f31 := (PsF.later HF.out (hb2)).f31, f32 := (PsF.later HF.out (hb2)).f32, f33 := HF.out.f33 }
    | 11, _ => exact absurd hun (by simp)
    | 12, _ => exact absurd hun (by simp)
    | 13, _ => exact absurd hun (by simp)
    | 14, _ => exact absurd hun (by simp)
    | 15, _ => exact absurd hun (by simp)
    | 16, _ => exact absurd hun (by simp)
    | 17, _ =>
      have e17 : b17 = false := hun
      subst e17
      refine wpOp_step rfl (fun K hK0 => ?_)
      have hK := (show Shut _ from hK0)
      clear hK0
      simp only [pa]
      go_simp
      refine hK.out _ _ ⟨?_, ?_⟩
      · exact HSx.out _ (hSB.out.trans ((alloc_below _ _).mono hSB.out.size))
      · refine ⟨b2, b6, b10, true, b18, b22, b26, b30, b31, b32, b33, _, _, _, _, _, _, _, _, _, _, _, rfl, by simp only [pa]; rfl, ?_⟩
        exact { f2 := (PsF.later HF.out (alloc_below _ _)).f2, f6 := (PsF.later HF.out (alloc_below _ _)).f6, f10 := (PsF.later HF.out (alloc_below _ _)).f10, f17 := fun _ => irow2 _ _ (T) (N), f18 := (PsF.later HF.out (alloc_below _ _)).f18, f22 := (PsF.later HF.out (alloc_below _ _)).f22, f26 := (PsF.later HF.out (alloc_below _ _)).f26, f30 := (PsF.later HF.out (alloc_below _ _)).f30, f31 := (PsF.later HF.out (alloc_below _ _)).f31, f32 := (PsF.later HF.out (alloc_below _ _)).f32, f33 := HF.out.f33 }
    | 18, _ =>
      have e18 : b18 = false := hun
      subst e18
      have e10 : b10 = true := ready_dep 10 hi (by kernel_rfl)
      subst e10
      have e17 : b17 = true := ready_dep 17 hi (by kernel_rfl)
      subst e17
      obtain ⟨g, c, rfl, hg, hcs⟩ := HF.out.f17 rfl
      refine wpOp_step rfl (fun K hK0 => ?_)
      have hK := (show Shut _ from hK0)
      clear hK0
      simp only [pa]
      go_simp
      go_wp2_with (first | (go_at_call 35; refine (putNums_any g c 2 [T, N] _ hg rfl (by omega) hcs).mono ?_; rintro e x2 ⟨a2, c2, rfl, o2, hb2⟩))
      refine hK.out _ _ ⟨?_, ?_⟩
      · exact HSx.out _ (hSB.out.trans ((hb2).mono hSB.out.size))
      · refine ⟨b2, b6, true, true, true, b22, b26, b30, b31, b32, b33, _, _, _, _, _, _, _, _, _, _, _, rfl, by simp only [pa]; rfl, ?_⟩
        exact { f2 := (PsF.later HF.out (hb2)).f2, f6 := (PsF.later HF.out (hb2)).f6, f10 := (PsF.later HF.out (hb2)).f10, f17 := (PsF.later HF.out (hb2)).f17, f18 := fun _ => BytRow.own o2, f22 := (PsF.later HF.out (hb2)).f22, f26 := (PsF.later HF.out (hb2)).f26, f30 := (PsF.later HF.out (hb2)).f30, f31 := (PsF.later HF.out (hb2)).f31, f32 := (PsF.later HF.out (hb2)).f32, f33 := HF.out.f33 }
    | 19, _ => exact absurd hun (by simp)
    | 20, _ => exact absurd hun (by simp)
    | 21, _ => exact absurd hun (by simp)
    | 22, _ =>
      have e22 : b22 = false := hun
      subst e22
      have e18 : b18 = true := ready_dep 18 hi (by kernel_rfl)
      subst e18
      refine wpOp_step rfl (fun K hK0 => ?_)
      have hK := (show Shut _ from hK0)
      clear hK0
      simp only [pa]
      go_simp
      go_wp2_with (first | (go_at_call 36; refine (HC4.out _ (HW.out.trans (hSB.out.mono HW.out.size))).mono ?_; rintro e x2 ⟨a2, c2, rfl, o2, hb2⟩))
      refine hK.out _ _ ⟨?_, ?_⟩
      · exact HSx.out _ (hSB.out.trans ((hb2).mono hSB.out.size))
      · refine ⟨b2, b6, b10, b17, true, true, b26, b30, b31, b32, b33, _, _, _, _, _, _, _, _, _, _, _, rfl, by simp only [pa]; rfl, ?_⟩
        exact { f2 := (PsF.later HF.out (hb2)).f2, f6 := (PsF.later HF.out (hb2)).f6, f10 := (PsF.later HF.out (hb2)).f10, f17 := (PsF.later HF.out (hb2)).f17, f18 := (PsF.later HF.out (hb2)).f18, f22 := fun _ => BytRow.own o2, f26 := (PsF.later HF.out (hb2)).f26, f30 := (PsF.later HF.out (hb2)).f30, f31 := (PsF.later HF.out (hb2)).f31, f32 := (PsF.later HF.out (hb2)).f32, f33 := HF.out.f33 }
    | 23, _ => exact absurd hun (by simp)
    | 24, _ => exact absurd hun (by simp)
    | 25, _ => exact absurd hun (by simp)
    | 26, _ =>
      have e26 : b26 = false := hun
      subst e26
      have e22 : b22 = true := ready_dep 22 hi (by kernel_rfl)
      subst e22
      refine wpOp_step rfl (fun K hK0 => ?_)
      have hK := (show Shut _ from hK0)
      clear hK0
      simp only [pa]
      go_simp
      go_wp2_with (first | (go_at_call 30; refine (HC5.out _).mono ?_; rintro e x2 ⟨a2, c2, rfl, o2, hb2⟩))
      refine hK.out _ _ ⟨?_, ?_⟩
      · exact HSx.out _ (hSB.out.trans ((hb2).mono hSB.out.size))
      · refine ⟨b2, b6, b10, b17, b18, true, true, b30, b31, b32, b33, _, _, _, _, _, _, _, _, _, _, _, rfl, by simp only [pa]; rfl, ?_⟩
        exact { f2 := (PsF.later HF.out (hb2)).f2, f6 := (PsF.later HF.out (hb2)).f6, f10 := (PsF.later HF.out (hb2)).f10, f17 := (PsF.later HF.out (hb2)).f17, f18 := (PsF.later HF.out (hb2)).f18, f22 := (PsF.later HF.out (hb2)).f22, f26 := fun _ => BytRow.own o2, f30 := (PsF.later HF.out (hb2)).f30, f31 := (PsF.later HF.out (hb2)).f31, f32 := (PsF.later HF.out (hb2)).f32, f33 := HF.out.f33 }
    | 27, _ => exact absurd hun (by simp)
    | 28, _ => exact absurd hun (by simp)
    | 29, _ => exact absurd hun (by simp)
    | 30, _ =>
      have e30 : b30 = false := hun
      subst e30
      have e26 : b26 = true := ready_dep 26 hi (by kernel_rfl)
      subst e26
      refine wpOp_step rfl (fun K hK0 => ?_)
      have hK := (show Shut _ from hK0)
      clear hK0
      simp only [pa]
      go_simp
      go_wp2_with (first | (go_at_call 38; refine (HC6.out _ (HW.out.trans (hSB.out.mono HW.out.size))).mono ?_; rintro e x2 ⟨a2, c2, rfl, o2, hb2⟩))
      refine hK.out _ _ ⟨?_, ?_⟩
      · exact HSx.out _ (hSB.out.trans ((hb2).mono hSB.out.size))
      · refine ⟨b2, b6, b10, b17, b18, b22, true, true, b31, b32, b33, _, _, _, _, _, _, _, _, _, _, _, rfl, by simp only [pa]; rfl, ?_⟩
        exact { f2 := (PsF.later HF.out (hb2)).f2, f6 := (PsF.later HF.out (hb2)).f6, f10 := (PsF.later HF.out (hb2)).f10, f17 := (PsF.later HF.out (hb2)).f17, f18 := (PsF.later HF.out (hb2)).f18, f22 := (PsF.later HF.out (hb2)).f22, f26 := (PsF.later HF.out (hb2)).f26, f30 := fun _ => BytRow.own o2, f31 := (PsF.later HF.out (hb2)).f31, f32 := (PsF.later HF.out (hb2)).f32, f33 := HF.out.f33 }
    | 31, _ =>
      have e31 : b31 = false := hun
      subst e31
      have e2 : b2 = true := ready_dep 2 hi (by kernel_rfl)
      subst e2
      have e6 : b6 = true := ready_dep 6 hi (by kernel_rfl)
      subst e6
      have e10 : b10 = true := ready_dep 10 hi (by kernel_rfl)
      subst e10
      have e18 : b18 = true := ready_dep 18 hi (by kernel_rfl)
      subst e18
      have e22 : b22 = true := ready_dep 22 hi (by kernel_rfl)
      subst e22
      have e26 : b26 = true := ready_dep 26 hi (by kernel_rfl)
      subst e26
      have e30 : b30 = true := ready_dep 30 hi (by kernel_rfl)
      subst e30
      obtain ⟨a0, c0, rfl, h0, n0⟩ := HF.out.f2 rfl
      obtain ⟨a1, c1, rfl, h1, n1⟩ := HF.out.f6 rfl
      obtain ⟨a2, c2, rfl, h2, n2⟩ := HF.out.f10 rfl
      obtain ⟨a3, c3, rfl, h3, n3⟩ := HF.out.f18 rfl
      obtain ⟨a4, c4, rfl, h4, n4⟩ := HF.out.f22 rfl
      obtain ⟨a5, c5, rfl, h5, n5⟩ := HF.out.f26 rfl
      obtain ⟨a6, c6, rfl, h6, n6⟩ := HF.out.f30 rfl
      refine wpOp_step rfl (fun K hK0 => ?_)
      have hK := (show Shut _ from hK0)
      clear hK0
      simp only [pa]
      go_simp
      refine hK.out _ _ ⟨?_, ?_⟩
      · exact HSx.out _ (hSB.out.trans ((alloc_below _ _).mono hSB.out.size))
      · refine ⟨true, true, true, b17, true, true, true, true, true, b32, b33, _, _, _, _, _, _, _, _, _, _, _, rfl, by simp only [pa]; rfl, ?_⟩
        exact { f2 := (PsF.later HF.out (alloc_below _ _)).f2, f6 := (PsF.later HF.out (alloc_below _ _)).f6, f10 := (PsF.later HF.out (alloc_below _ _)).f10, f17 := (PsF.later HF.out (alloc_below _ _)).f17, f18 := (PsF.later HF.out (alloc_below _ _)).f18, f22 := (PsF.later HF.out (alloc_below _ _)).f22, f26 := (PsF.later HF.out (alloc_below _ _)).f26, f30 := (PsF.later HF.out (alloc_below _ _)).f30, f31 := fun _ => ⟨_, rfl, by simp, fun j hj => by
          rcases j with _ | _ | _ | _ | _ | _ | _ | j
          · exact ⟨a0, c0, _, rfl, by simp [go_sem], h0.later (alloc_below _ _), n0⟩
          · exact ⟨a1, c1, _, rfl, by simp [go_sem], h1.later (alloc_below _ _), n1⟩
          · exact ⟨a2, c2, _, rfl, by simp [go_sem], h2.later (alloc_below _ _), n2⟩
          · exact ⟨a3, c3, _, rfl, by simp [go_sem], h3.later (alloc_below _ _), n3⟩
          · exact ⟨a4, c4, _, rfl, by simp [go_sem], h4.later (alloc_below _ _), n4⟩
          · exact ⟨a5, c5, _, rfl, by simp [go_sem], h5.later (alloc_below _ _), n5⟩
          · exact ⟨a6, c6, _, rfl, by simp [go_sem], h6.later (alloc_below _ _), n6⟩
          · simp at hj; omega⟩, f32 := (PsF.later HF.out (alloc_below _ _)).f32, f33 := HF.out.f33 }
    | 32, _ =>
      have e32 : b32 = false := hun
      subst e32
      have e30 : b30 = true := ready_dep 30 hi (by kernel_rfl)
      subst e30
      have e31 : b31 = true := ready_dep 31 hi (by kernel_rfl)
      subst e31
      obtain ⟨g, rfl, hg, hR⟩ := HF.out.f31 rfl
      have HRw := hidP hR
      clear hR
      refine wpOp_step rfl (fun K hK0 => ?_)
      have hK := (show Shut _ from hK0)
      clear hK0
      simp only [pa]
      go_simp
      have hcat := concat_any g 7 7 [numB (u64 C), rowsB poolB ps, rowsB blockB bs, numsB [T, N], rowsB leaseB ls, numB (u64 X), rowsB sessB ss] x rfl (by omega) hg HRw.out HZ.out.1 HZ.out.2
      rw [HZf.out] at hcat
      have HCa := hidP hcat
      clear hcat
      go_wp2_with (first | (go_at_call 29; refine (HCa.out).mono ?_; rintro e x2 ⟨g2, c2, rfl, o2, hb2⟩))
      refine hK.out _ _ ⟨?_, ?_⟩
      · exact HSx.out _ (hSB.out.trans ((hb2).mono hSB.out.size))
      · refine ⟨b2, b6, b10, b17, b18, b22, b26, true, true, true, b33, _, _, _, _, _, _, _, _, _, _, _, rfl, by simp only [pa]; rfl, ?_⟩
        exact { f2 := (PsF.later HF.out (hb2)).f2, f6 := (PsF.later HF.out (hb2)).f6, f10 := (PsF.later HF.out (hb2)).f10, f17 := (PsF.later HF.out (hb2)).f17, f18 := (PsF.later HF.out (hb2)).f18, f22 := (PsF.later HF.out (hb2)).f22, f26 := (PsF.later HF.out (hb2)).f26, f30 := (PsF.later HF.out (hb2)).f30, f31 := (PsF.later HF.out (hb2)).f31, f32 := fun _ => ⟨g2, c2, rfl, o2.mono hSB.out.size⟩, f33 := fun e => absurd (HF.out.f33 e).1 (by simp) }
    | 33, _ =>
      have e33 : b33 = false := hun
      subst e33
      have e2 : b2 = true := ready_dep 2 hi (by kernel_rfl)
      subst e2
      have e6 : b6 = true := ready_dep 6 hi (by kernel_rfl)
      subst e6
      have e10 : b10 = true := ready_dep 10 hi (by kernel_rfl)
      subst e10
      have e17 : b17 = true := ready_dep 17 hi (by kernel_rfl)
      subst e17
      have e18 : b18 = true := ready_dep 18 hi (by kernel_rfl)
      subst e18
      have e22 : b22 = true := ready_dep 22 hi (by kernel_rfl)
      subst e22
      have e26 : b26 = true := ready_dep 26 hi (by kernel_rfl)
      subst e26
      have e30 : b30 = true := ready_dep 30 hi (by kernel_rfl)
      subst e30
      have e31 : b31 = true := ready_dep 31 hi (by kernel_rfl)
      subst e31
      have e32 : b32 = true := ready_dep 32 hi (by kernel_rfl)
      subst e32
      refine wpOp_step rfl (fun K hK0 => ?_)
      have hK := (show Shut _ from hK0)
      clear hK0
      simp only [pa]
      go_simp
      refine hK.out _ _ ⟨?_, ?_⟩
      · exact HSx.out _ (hSB.out.trans ((Below.refl _ _).mono hSB.out.size))
      · refine ⟨true, true, true, true, true, true, true, true, true, true, true, _, _, _, _, _, _, _, _, _, _, _, rfl, by simp only [pa]; rfl, ?_⟩
        exact { f2 := (PsF.later HF.out (Below.refl _ _)).f2, f6 := (PsF.later HF.out (Below.refl _ _)).f6, f10 := (PsF.later HF.out (Below.refl _ _)).f10, f17 := (PsF.later HF.out (Below.refl _ _)).f17, f18 := (PsF.later HF.out (Below.refl _ _)).f18, f22 := (PsF.later HF.out (Below.refl _ _)).f22, f26 := (PsF.later HF.out (Below.refl _ _)).f26, f30 := (PsF.later HF.out (Below.refl _ _)).f30, f31 := (PsF.later HF.out (Below.refl _ _)).f31, f32 := (PsF.later HF.out (Below.refl _ _)).f32, f33 := fun _ => ⟨rfl, rfl⟩ }
    | j + 34, h => exact absurd h (by simp)
  · rintro listed a x ⟨b2, b6, b10, b17, b18, b22, b26, b30, b31, b32, b33, v10, v14, v18, v25, v26, v30, v34, v38, v39, v40, v3, rfl, rfl, hF⟩ hHeld hnil
    have hno : ∀ i, i ∈ Region.ready .any _ _ → False := fun i h => by rw [hnil] at h; cases h
    have e2 : b2 = true := by
      cases b2
      · exact (hno 2 (ready_in (by decide) (by kernel_rfl))).elim
      · rfl
    subst e2
    have e6 : b6 = true := by
      cases b6
      · exact (hno 6 (ready_in (by decide) (by kernel_rfl))).elim
      · rfl
    subst e6
    have e10 : b10 = true := by
      cases b10
      · exact (hno 10 (ready_in (by decide) (by kernel_rfl))).elim
      · rfl
    subst e10
    have e17 : b17 = true := by
      cases b17
      · exact (hno 17 (ready_in (by decide) (by kernel_rfl))).elim
      · rfl
    subst e17
    have e18 : b18 = true := by
      cases b18
      · exact (hno 18 (ready_in (by decide) (by kernel_rfl))).elim
      · rfl
    subst e18
    have e22 : b22 = true := by
      cases b22
      · exact (hno 22 (ready_in (by decide) (by kernel_rfl))).elim
      · rfl
    subst e22
    have e26 : b26 = true := by
      cases b26
      · exact (hno 26 (ready_in (by decide) (by kernel_rfl))).elim
      · rfl
    subst e26
    have e30 : b30 = true := by
      cases b30
      · exact (hno 30 (ready_in (by decide) (by kernel_rfl))).elim
      · rfl
    subst e30
    have e31 : b31 = true := by
      cases b31
      · exact (hno 31 (ready_in (by decide) (by kernel_rfl))).elim
      · rfl
    subst e31
    have e32 : b32 = true := by
      cases b32
      · exact (hno 32 (ready_in (by decide) (by kernel_rfl))).elim
      · rfl
    subst e32
    have e33 : b33 = true := by
      cases b33
      · exact (hno 33 (ready_in (by decide) (by kernel_rfl))).elim
      · rfl
    subst e33
    obtain ⟨g, c, rfl, hO⟩ := hF.f32 rfl
    obtain ⟨_, rfl⟩ := hF.f33 rfl
    have HO := hidP (hO.mono (B' := w.heap.size) hWB)
    have HB := hidP (HW.out.trans ((hHeld.2.2.2.2.2.2.2.2).mono hWB))
    clear hHeld hF hO hnil hno
    simp only [pa]
    go_wp2_with fail
    go_ret
    exact ⟨g, c, rfl, HO.out, HB.out⟩

end Go.Proofs.YtngcbhbcocnbeaaGreat
namespace Go.Proofs.YtngcbhbcocnbeaaGreat
open Go.RowKit

set_option maxRecDepth 10000 in
set_option maxHeartbeats 1000000 in
theorem iPlanOk_any (ap : Option Addr) (np cp : Nat) (ab : Option Addr) (nb cb : Nat) (ps : List Pl) (bs : List Bk) (w : World) (hnp : np = ps.length) (hnb : nb = bs.length) (hP : RowG KPl w ap ps) (hK : RowG KBk w ab bs) (hlp : np ≤ 9000000000) (hl : nb ≤ 9000000000) (hst : ∀ q ∈ bs, q.t.size ≤ 9223372036854775807) :
    Calls Tryz.prog 62 #[.agg #[.slice ap np cp, .slice ab nb cb]] w fun e w' => e = .returned (.bool (planB ps bs)) ∧ Below w.heap.size w w' := by
  have HPO := hidP (fun W h => poolsOk_any ap np cp ps W hnp (hP.later h) hlp)
  have HBO := hidP (fun W h => blocksOk_any ap np cp ab nb cb ps bs W hnp hnb (hP.later h) (hK.later h) hlp hl hst)
  have hv : planB ps bs = ((decide (np ≤ 20) && decide (nb ≤ 60)) && (poolsF none ps && blocksI ps none bs)) := by rw [hnp, hnb]; rfl
  rw [hv]
  generalize poolsF none ps = r1 at *
  generalize blocksI ps none bs = r2 at *
  clear hP hK hnp hnb hst hv
  cases h1 : decide (np ≤ 20)
  · have g1 : decide ((np : Int) ≤ 20) = false := by rw [← h1]; exact decide_eq_decide.mpr (by omega)
    go_enter Tryz.func62, Tryz.ntmps62
    go_wp2_with fail
    go_ret
    exact ⟨rfl, (Below.refl _ _).alloc (Nat.le_refl _) _⟩
  · have g1 : decide ((np : Int) ≤ 20) = true := by rw [← h1]; exact decide_eq_decide.mpr (by omega)
    cases h2 : decide (nb ≤ 60)
    · have g2 : decide ((nb : Int) ≤ 60) = false := by rw [← h2]; exact decide_eq_decide.mpr (by omega)
      go_enter Tryz.func62, Tryz.ntmps62
      go_wp2_with fail
      go_ret
      exact ⟨rfl, (Below.refl _ _).alloc (Nat.le_refl _) _⟩
    · have g2 : decide ((nb : Int) ≤ 60) = true := by rw [← h2]; exact decide_eq_decide.mpr (by omega)
      cases r1
      · go_enter Tryz.func62, Tryz.ntmps62
        go_wp2_with fail
        obtain ⟨u0, u1⟩ := box2 (u := .slice ap np cp) (v := .slice ab nb cb) w 40
        have uB := alloc_below w (.cells #[.slice ap np cp, .slice ab nb cb] 40)
        have uL := alloc_lt w (.cells #[.slice ap np cp, .slice ab nb cb] 40)
        have uS : (w.alloc (.cells #[.slice ap np cp, .slice ab nb cb] 40)).heap.size = w.heap.size + 1 := by simp
        generalize w.alloc (.cells #[.slice ap np cp, .slice ab nb cb] 40) = W1 at *
        have HUB := hidP uB
        refine (HPO.out W1 uB).mono ?_
        rintro e w1 ⟨rfl, hb1⟩
        have HB1 := hidP hb1
        have z0 := (hb1.cell uL).trans u0
        have z1 := (hb1.cell uL).trans u1
        clear uB hb1
        go_wp2_with fail
        go_ret
        exact ⟨rfl, HUB.out.trans (HB1.out.mono HUB.out.size)⟩
      · go_enter Tryz.func62, Tryz.ntmps62
        go_wp2_with fail
        obtain ⟨u0, u1⟩ := box2 (u := .slice ap np cp) (v := .slice ab nb cb) w 40
        have uB := alloc_below w (.cells #[.slice ap np cp, .slice ab nb cb] 40)
        have uL := alloc_lt w (.cells #[.slice ap np cp, .slice ab nb cb] 40)
        have uS : (w.alloc (.cells #[.slice ap np cp, .slice ab nb cb] 40)).heap.size = w.heap.size + 1 := by simp
        generalize w.alloc (.cells #[.slice ap np cp, .slice ab nb cb] 40) = W1 at *
        have HUB := hidP uB
        refine (HPO.out W1 uB).mono ?_
        rintro e w1 ⟨rfl, hb1⟩
        have HB1 := hidP (HUB.out.trans (hb1.mono HUB.out.size))
        have z0 := (hb1.cell uL).trans u0
        have z1 := (hb1.cell uL).trans u1
        clear uB hb1
        go_wp2_with fail
        refine (HBO.out w1 HB1.out).mono ?_
        rintro e w2 ⟨rfl, hb2⟩
        have HB2 := hidP hb2
        clear hb2
        go_wp2_with fail
        go_ret
        exact ⟨by cases r2 <;> rfl, HB1.out.trans (HB2.out.mono HB1.out.size)⟩

end Go.Proofs.YtngcbhbcocnbeaaGreat
namespace Go.Proofs.YtngcbhbcocnbeaaGreat
open Go.RowKit

theorem lpF_at (p : Pf) (ps : List Pl) (k : Nat) (q : Pl) (h : ps[k]? = some q) : lpF p k (ps.drop k) = if winP p q.p = true then (k : Int) else lpF p ((k + 1 : Nat) : Int) (ps.drop (k + 1)) := by
  rw [drop_at h]; rfl

set_option maxRecDepth 10000 in
set_option maxHeartbeats 1000000 in
theorem l5Pool_any (pt : Pf) (ap : Option Addr) (np cp : Nat) (ab : Option Addr) (nb cb : Nat) (ps : List Pl) (w : World) (hnp : np = ps.length) (hP : RowG KPl w ap ps) (hlp : np ≤ 9000000000) :
    Calls Tryz.prog 84 #[.agg #[.slice ap np cp, .slice ab nb cb], .agg #[.bool pt.s, .int .i64 pt.H.toInt, .int .i64 pt.L.toInt, .int .i64 pt.b]] w fun e w' => e = .returned (.int .i64 (lpF pt 0 ps)) ∧ Below w.heap.size w w' := by
  have HBP := hidP hP
  have HN := hidP hnp
  clear hP hnp
  go_enter Tryz.func84, Tryz.ntmps84
  go_wp2_with fail
  obtain ⟨u0, u1⟩ := box2 (u := .slice ap np cp) (v := .slice ab nb cb) w 40
  have uB := alloc_below w (.cells #[.slice ap np cp, .slice ab nb cb] 40)
  have uL := alloc_lt w (.cells #[.slice ap np cp, .slice ab nb cb] 40)
  have uS : (w.alloc (.cells #[.slice ap np cp, .slice ab nb cb] 40)).heap.size = w.heap.size + 1 := by simp
  generalize w.alloc (.cells #[.slice ap np cp, .slice ab nb cb] 40) = W1 at *
  obtain ⟨y0, y1, y2, y3⟩ := box4 (p := pt) W1 66
  have yB := alloc_below W1 (.cells #[.bool pt.s, .int .i64 pt.H.toInt, .int .i64 pt.L.toInt, .int .i64 pt.b] 66)
  have yL := alloc_lt W1 (.cells #[.bool pt.s, .int .i64 pt.H.toInt, .int .i64 pt.L.toInt, .int .i64 pt.b] 66)
  have yS : (W1.alloc (.cells #[.bool pt.s, .int .i64 pt.H.toInt, .int .i64 pt.L.toInt, .int .i64 pt.b] 66)).heap.size = W1.heap.size + 1 := by simp
  generalize W1.alloc (.cells #[.bool pt.s, .int .i64 pt.H.toInt, .int .i64 pt.L.toInt, .int .i64 pt.b] 66) = W2 at *
  rw [uS] at y0 y1 y2 y3 yL yS
  have s0 := (yB.cell uL).trans u0
  have sL : w.heap.size < W2.heap.size := by omega
  have HUB := hidP (uB.trans (yB.mono uB.size))
  have HP2 := hidP (HBP.out.later HUB.out)
  clear uB yB uS yS u0 u1 HBP uL
  go_loopw [5] (fun t5 wr => ∃ k : Nat, k ≤ np ∧ t5 = .int .i64 k ∧ lpF pt 0 ps = lpF pt k (ps.drop k) ∧ Below W2.heap.size W2 wr) (fun t5 _ => np - (intOf t5).toNat)
  case atStart => exact ⟨0, Nat.zero_le _, rfl, rfl, Below.refl _ _⟩
  case round =>
    obtain ⟨k, hk, rfl, hix, hbel⟩ := hrel
    by_cases hlt : k < np
    · obtain ⟨p, o, q, rfl, hp, hq, c0, c1, c2, c3, c4⟩ := rowPl HP2.out k (by rw [← HN.out]; exact hlt)
      have d0 := (hbel.cell hp).trans c0
      have d1 := (hbel.cell hp).trans c1
      have d2 := (hbel.cell hp).trans c2
      have d3 := (hbel.cell hp).trans c3
      have dL : p < wr.heap.size := Nat.lt_of_lt_of_le hp hbel.size
      have v0 := (hbel.cell sL).trans s0
      have vL : w.heap.size < wr.heap.size := Nat.lt_of_lt_of_le sL hbel.size
      have r0 := (hbel.cell yL).trans y0
      have r1 := (hbel.cell yL).trans y1
      have r2 := (hbel.cell yL).trans y2
      have r3 := (hbel.cell yL).trans y3
      have rL : w.heap.size + 1 < wr.heap.size := Nat.lt_of_lt_of_le yL hbel.size
      have hst := lpF_at pt ps k q hq
      rw [hst] at hix
      have HX := hidP hix
      have HBel := hidP hbel
      have HWi := hidP (sWithin_any pt.s pt.H pt.L pt.b q.p.s q.p.H q.p.L q.p.b)
      change Hid (∀ w, Calls Tryz.prog 108 _ w fun e w' => e = .returned (.bool (winP pt q.p)) ∧ Below w.heap.size w w') at HWi
      clear c0 c1 c2 c3 c4 hq hix hst hbel
      cases hw : winP pt q.p
      · rw [hw] at HX HWi
        go_wp2_with fail
        have HSx : Hid (∀ x, Below wr.heap.size wr x → (x.cell? ⟨p, o + k * 5, none⟩ = some (.bool q.p.s) ∧ x.cell? ⟨p, o + k * 5 + 1, none⟩ = some (.int .i64 q.p.H.toInt) ∧ x.cell? ⟨p, o + k * 5 + 2, none⟩ = some (.int .i64 q.p.L.toInt) ∧ x.cell? ⟨p, o + k * 5 + 3, none⟩ = some (.int .i64 q.p.b) ∧ x.cell? ⟨w.heap.size, 0, none⟩ = some (.slice (some ⟨p, o, none⟩) np cp) ∧ x.cell? ⟨w.heap.size + 1, 0, none⟩ = some (.bool pt.s) ∧ x.cell? ⟨w.heap.size + 1, 1, none⟩ = some (.int .i64 pt.H.toInt) ∧ x.cell? ⟨w.heap.size + 1, 2, none⟩ = some (.int .i64 pt.L.toInt) ∧ x.cell? ⟨w.heap.size + 1, 3, none⟩ = some (.int .i64 pt.b) ∧ Below wr.heap.size wr x)) := hidP fun x h =>
          ⟨(h.cell dL).trans d0, (h.cell dL).trans d1, (h.cell dL).trans d2, (h.cell dL).trans d3, (h.cell vL).trans v0, (h.cell rL).trans r0, (h.cell rL).trans r1, (h.cell rL).trans r2, (h.cell rL).trans r3, h⟩
        refine wp_region_held_drew (S := (fun x => x.cell? ⟨p, o + k * 5, none⟩ = some (.bool q.p.s) ∧ x.cell? ⟨p, o + k * 5 + 1, none⟩ = some (.int .i64 q.p.H.toInt) ∧ x.cell? ⟨p, o + k * 5 + 2, none⟩ = some (.int .i64 q.p.L.toInt) ∧ x.cell? ⟨p, o + k * 5 + 3, none⟩ = some (.int .i64 q.p.b) ∧ x.cell? ⟨w.heap.size, 0, none⟩ = some (.slice (some ⟨p, o, none⟩) np cp) ∧ x.cell? ⟨w.heap.size + 1, 0, none⟩ = some (.bool pt.s) ∧ x.cell? ⟨w.heap.size + 1, 1, none⟩ = some (.int .i64 pt.H.toInt) ∧ x.cell? ⟨w.heap.size + 1, 2, none⟩ = some (.int .i64 pt.L.toInt) ∧ x.cell? ⟨w.heap.size + 1, 3, none⟩ = some (.int .i64 pt.b) ∧ Below wr.heap.size wr x)) (by kernel_rfl) ?_ (fun hHeld => ?_)
        · try dsimp only
          exact HSx.out _ (Below.refl _ _).drew
        refine tk 0 13 rfl ?_; simp only [pa]
        refine tk 1 14 rfl ?_; simp only [pa]
        refine tk 2 15 rfl ?_; simp only [pa]
        refine tk 3 16 rfl ?_; simp only [pa]
        refine tk 4 17 rfl ?_; simp only [pa]
        refine tk 5 18 rfl ?_; simp only [pa]
        refine tk 6 19 rfl ?_; simp only [pa]
        refine wpAnyH_ready (rs := [7]) (by kernel_rfl) (by simp) ?_
        refine AllReadyH.cons rfl (fun K hK => ?_) AllReadyH.nil
        go_simp
        go_wp2_with (first | (go_at_call 108; refine (HWi.out _).mono ?_; rintro e w2 ⟨rfl, hb2⟩; have b2 := (hHeld.2.2.2.2.2.2.2.2.2).trans (hb2.mono (hHeld.2.2.2.2.2.2.2.2.2).size)))
        refine hK.out _ _ ?_ (fun hHeld => ?_)
        · try dsimp only
          exact HSx.out _ b2
        clear hK K
        have HE := hidP (hHeld.2.2.2.2.2.2.2.2.2)
        refine wpAnyH_done (by kernel_rfl) ?_ _
        clear hHeld
        go_wp2_with fail
        go_roundw
        case rel => exact ⟨k + 1, by omega, by go_num, by rw [HX.out]; simp, HBel.out.trans (HE.out.mono HBel.out.size)⟩
        case measure => simp [intOf]; omega
      · rw [hw] at HX HWi
        go_wp2_with fail
        have HSx : Hid (∀ x, Below wr.heap.size wr x → (x.cell? ⟨p, o + k * 5, none⟩ = some (.bool q.p.s) ∧ x.cell? ⟨p, o + k * 5 + 1, none⟩ = some (.int .i64 q.p.H.toInt) ∧ x.cell? ⟨p, o + k * 5 + 2, none⟩ = some (.int .i64 q.p.L.toInt) ∧ x.cell? ⟨p, o + k * 5 + 3, none⟩ = some (.int .i64 q.p.b) ∧ x.cell? ⟨w.heap.size, 0, none⟩ = some (.slice (some ⟨p, o, none⟩) np cp) ∧ x.cell? ⟨w.heap.size + 1, 0, none⟩ = some (.bool pt.s) ∧ x.cell? ⟨w.heap.size + 1, 1, none⟩ = some (.int .i64 pt.H.toInt) ∧ x.cell? ⟨w.heap.size + 1, 2, none⟩ = some (.int .i64 pt.L.toInt) ∧ x.cell? ⟨w.heap.size + 1, 3, none⟩ = some (.int .i64 pt.b) ∧ Below wr.heap.size wr x)) := hidP fun x h =>
          ⟨(h.cell dL).trans d0, (h.cell dL).trans d1, (h.cell dL).trans d2, (h.cell dL).trans d3, (h.cell vL).trans v0, (h.cell rL).trans r0, (h.cell rL).trans r1, (h.cell rL).trans r2, (h.cell rL).trans r3, h⟩
        refine wp_region_held_drew (S := (fun x => x.cell? ⟨p, o + k * 5, none⟩ = some (.bool q.p.s) ∧ x.cell? ⟨p, o + k * 5 + 1, none⟩ = some (.int .i64 q.p.H.toInt) ∧ x.cell? ⟨p, o + k * 5 + 2, none⟩ = some (.int .i64 q.p.L.toInt) ∧ x.cell? ⟨p, o + k * 5 + 3, none⟩ = some (.int .i64 q.p.b) ∧ x.cell? ⟨w.heap.size, 0, none⟩ = some (.slice (some ⟨p, o, none⟩) np cp) ∧ x.cell? ⟨w.heap.size + 1, 0, none⟩ = some (.bool pt.s) ∧ x.cell? ⟨w.heap.size + 1, 1, none⟩ = some (.int .i64 pt.H.toInt) ∧ x.cell? ⟨w.heap.size + 1, 2, none⟩ = some (.int .i64 pt.L.toInt) ∧ x.cell? ⟨w.heap.size + 1, 3, none⟩ = some (.int .i64 pt.b) ∧ Below wr.heap.size wr x)) (by kernel_rfl) ?_ (fun hHeld => ?_)
        · try dsimp only
          exact HSx.out _ (Below.refl _ _).drew
        refine tk 0 13 rfl ?_; simp only [pa]
        refine tk 1 14 rfl ?_; simp only [pa]
        refine tk 2 15 rfl ?_; simp only [pa]
        refine tk 3 16 rfl ?_; simp only [pa]
        refine tk 4 17 rfl ?_; simp only [pa]
        refine tk 5 18 rfl ?_; simp only [pa]
        refine tk 6 19 rfl ?_; simp only [pa]
        refine wpAnyH_ready (rs := [7]) (by kernel_rfl) (by simp) ?_
        refine AllReadyH.cons rfl (fun K hK => ?_) AllReadyH.nil
        go_simp
        go_wp2_with (first | (go_at_call 108; refine (HWi.out _).mono ?_; rintro e w2 ⟨rfl, hb2⟩; have b2 := (hHeld.2.2.2.2.2.2.2.2.2).trans (hb2.mono (hHeld.2.2.2.2.2.2.2.2.2).size)))
        refine hK.out _ _ ?_ (fun hHeld => ?_)
        · try dsimp only
          exact HSx.out _ b2
        clear hK K
        have HE := hidP (hHeld.2.2.2.2.2.2.2.2.2)
        refine wpAnyH_done (by kernel_rfl) ?_ _
        clear hHeld
        go_wp2_with fail
        go_ret
        exact ⟨ret_i (by rw [HX.out]; simp), HUB.out.trans ((HBel.out.trans (HE.out.mono HBel.out.size)).mono HUB.out.size)⟩
    · have HX : Hid (lpF pt 0 ps = -1) := by
        rw [List.drop_of_length_le (by have := HN.out; omega)] at hix
        exact hidP hix
      have v0 := (hbel.cell sL).trans s0
      have HBel := hidP hbel
      clear hbel hix
      go_wp2_with fail
      go_ret
      exact ⟨ret_i HX.out.symm, HUB.out.trans (HBel.out.mono HUB.out.size)⟩

end Go.Proofs.YtngcbhbcocnbeaaGreat
namespace Go.Proofs.YtngcbhbcocnbeaaGreat
open Go.RowKit

set_option maxHeartbeats 1000000 in
theorem sOverlaps_any (s : Bool) (H L : BitVec 64) (b : Int) (s' : Bool) (H' L' : BitVec 64) (b' : Int) (w : World) :
    Calls Tryz.prog 83 #[.agg #[.bool s, .int .i64 H.toInt, .int .i64 L.toInt, .int .i64 b], .agg #[.bool s', .int .i64 H'.toInt, .int .i64 L'.toInt, .int .i64 b']] w fun e w' => e = .returned (.bool (winB s H L b s' H' L' b' || winB s' H' L' b' s H L b)) ∧ Below w.heap.size w w' := by
  have HW : Hid (∀ w, _) := sWithin_any s H L b s' H' L' b'
  have HX : Hid (∀ w, _) := sWithin_any s' H' L' b' s H L b
  generalize winB s H L b s' H' L' b' = B1 at HW ⊢
  generalize winB s' H' L' b' s H L b = B2 at HX ⊢
  cases B1
  · rw [Bool.false_or]
    go_enter Tryz.func83, Tryz.ntmps83
    go_wp2_with fail
    refine (HW.out _).mono ?_
    rintro e w1 ⟨rfl, hb1⟩
    have hz1 := hb1.size
    try simp at hz1
    have f10 : w.heap.size < w1.heap.size := by omega
    have f11 : w.heap.size + 1 < w1.heap.size := by omega
    refine olds_k (w.heap.size + 2) hb1 ?_ ?_
    · first | omega | (simp; omega) | (simp; done)
    intro hc1 hf1
    go_wp2_with fail
    refine (HX.out _).mono ?_
    rintro e w2 ⟨rfl, hb2⟩
    have hz2 := hb2.size
    try simp at hz2
    have f20 : w.heap.size < w2.heap.size := by omega
    have f21 : w.heap.size + 1 < w2.heap.size := by omega
    refine olds_k (w.heap.size + 2) hb2 ?_ ?_
    · first | omega | (simp; omega) | (simp; done)
    intro hc2 hf2
    go_wp2_with fail
    go_ret
    refine ⟨rfl, ?_⟩
    repeat (first | with_reducible exact Below.refl _ _ | (with_reducible refine Below.drew ?_) | (with_reducible refine Below.alloc ?_ ?_ _; rotate_left; (focus (first | omega | (simp; omega) | (simp; done)))) | (with_reducible refine Below.setCell ?_ ?_ _; rotate_left; (focus (first | omega | (simp; omega) | (simp; done)))) | (with_reducible refine Below.trans ?_ (hb2.mono ?_); rotate_left; (focus (first | omega | (simp; omega) | (simp; done)))) | (with_reducible refine Below.trans ?_ (hb1.mono ?_); rotate_left; (focus (first | omega | (simp; omega) | (simp; done)))))
  · rw [Bool.true_or]
    go_enter Tryz.func83, Tryz.ntmps83
    go_wp2_with fail
    refine (HW.out _).mono ?_
    rintro e w1 ⟨rfl, hb1⟩
    have hz1 := hb1.size
    try simp at hz1
    have f10 : w.heap.size < w1.heap.size := by omega
    have f11 : w.heap.size + 1 < w1.heap.size := by omega
    refine olds_k (w.heap.size + 2) hb1 ?_ ?_
    · first | omega | (simp; omega) | (simp; done)
    intro hc1 hf1
    go_wp2_with fail
    go_ret
    refine ⟨rfl, ?_⟩
    repeat (first | with_reducible exact Below.refl _ _ | (with_reducible refine Below.drew ?_) | (with_reducible refine Below.alloc ?_ ?_ _; rotate_left; (focus (first | omega | (simp; omega) | (simp; done)))) | (with_reducible refine Below.setCell ?_ ?_ _; rotate_left; (focus (first | omega | (simp; omega) | (simp; done)))) | (with_reducible refine Below.trans ?_ (hb1.mono ?_); rotate_left; (focus (first | omega | (simp; omega) | (simp; done)))))

end Go.Proofs.YtngcbhbcocnbeaaGreat
