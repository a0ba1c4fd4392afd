/-
  For every cluster the two StatesMatch answer alike and leave it as it was, so the exact law of StatesMatch returns true; no condition.
-/
import Derived.Test.YtjiplphfpkhmpaaGreatJZ
import Derived.Test.YtjiplphfpkhmpaaGreatET
import Derived.Test.YtjiplphfpkhmpaaGreatEQ
import Derived.Test.YtjiplphfpkhmpaaGreatEZ
import Derived.Test.YtjiplphfpkhmpaaGreatEO
import Derived.Deep.DeepHandedRow
namespace Go.Proofs.YtjiplphfpkhmpaaGreat
open Go.ChangeShapes Go.WideShapes Go.ChangeAt Go.RowKit Go.Joins Go.Deep

theorem evc {a : Act} {v : Value} : a.eval (.const v) = v := rfl
set_option maxRecDepth 10000 in
set_option maxHeartbeats 4000000 in
theorem lawStatesMatch (vs : List Value) (x) (w : World) (hr : cCluster.rep w 0 vs x) :
    Calls Tryz.prog 3 #[vA vs] w fun e w' => e = .returned (.bool true) ∧ Below w.heap.size w w' := by
  refine calls_of_wp Tryz.func3 rfl ?_
  have hpan := pan_body (P := Tryz.prog) (fn := Tryz.f3) (R := fun e w' => e = .returned (.bool true) ∧ Below w.heap.size w w')
  have hsz : (⟨#[vA vs] ++ Array.replicate (Tryz.f3.ntmps - (#[vA vs] : Array Value).size) undef, []⟩ : Act).tmps.size = 27 := by
    rw [Array.size_append, Array.size_replicate]
    rfl
  have hdf : (⟨#[vA vs] ++ Array.replicate (Tryz.f3.ntmps - (#[vA vs] : Array Value).size) undef, []⟩ : Act).defers = [] := rfl
  have h00 : (⟨#[vA vs] ++ Array.replicate (Tryz.f3.ntmps - (#[vA vs] : Array Value).size) undef, []⟩ : Act).eval (.tmp 0) = vA vs := frame_0
  generalize (⟨#[vA vs] ++ Array.replicate (Tryz.f3.ntmps - (#[vA vs] : Array Value).size) undef, []⟩ : Act) = a at *
  have hk : cCluster.k = 8 := by kernel_rfl
  have hvl : vs.length = 8 := (cCluster.len hr).trans hk
  have fns : ∀ {a : Act} {W : World}, a.eval (.tmp 2) = .bool true → a.defers = [] → Below w.heap.size w W → bodyPost Tryz.prog Tryz.f3 (fun e w' => e = .returned (.bool true) ∧ Below w.heap.size w w') .ret a W := by
    intro a W h2 hd hb
    refine bodyPost_ret (v := .bool true) ?_ hd ⟨rfl, hb⟩
    have e4 : a.tmps.getD 2 undef = .bool true := h2
    have e5 : a.tmps[2]?.getD undef = .bool true := by simpa using e4
    simp [results, e5]
  refine wp_seq (wp_region_list ?_)
  refine wpl_box (us := vs) (by rw [h00]; rfl) ?_
  intro V b1 l1 z1
  refine wpl_assign (wpl_nil (wp_seq (wp_region_list (wpl_assign (wpl_nil (wp_seq (wp_region_list ?_)))))))
  rw [evc, evc]
  have g1 : (((a.put (some 1) (.pointer (some ⟨w.heap.size, 0, none⟩))).put (some 2) (.bool false)).put (some 3) (.int .i64 1048576)).eval (.tmp 1) = .pointer (some ⟨w.heap.size, 0, none⟩) := (put_ne (by omega)).trans ((put_ne (by omega)).trans (put_eq (by omega)))
  have g3 : (((a.put (some 1) (.pointer (some ⟨w.heap.size, 0, none⟩))).put (some 2) (.bool false)).put (some 3) (.int .i64 1048576)).eval (.tmp 3) = .int .i64 1048576 := put_eq (by rw [put_sz, put_sz]; omega)
  have gz : (((a.put (some 1) (.pointer (some ⟨w.heap.size, 0, none⟩))).put (some 2) (.bool false)).put (some 3) (.int .i64 1048576)).tmps.size = 27 := put_sz.trans (put_sz.trans (put_sz.trans hsz))
  have gd : (((a.put (some 1) (.pointer (some ⟨w.heap.size, 0, none⟩))).put (some 2) (.bool false)).put (some 3) (.int .i64 1048576)).defers = [] := put_df.trans (put_df.trans (put_df.trans hdf))
  generalize (((a.put (some 1) (.pointer (some ⟨w.heap.size, 0, none⟩))).put (some 2) (.bool false)).put (some 3) (.int .i64 1048576)) = A at *
  clear hsz hdf h00
  have sg : ∀ {V : World}, Box V w.heap.size vs → Seg V w.heap.size 0 vs := fun h => Box.seg (us := []) (ts := []) (by simpa using h) rfl
  refine wpl_load rfl 31 (.tmp 1) rfl g1 vs (n := 8) ⟨by kernel_rfl, by kernel_rfl⟩ hvl (sg b1) ?_
  refine wpl_move ?_
  rw [put_ne (by omega), g3]
  refine wpl_call (R := fun e w' => e = .returned (.int .i64 (szL 1048576 (cCluster.tot x))) ∧ Below V.heap.size V w') ⟨_, Tryz.func4, by kernel_rfl, by kernel_rfl⟩ ?_ ?_
  · have hc := szCluster_c vs x V 1048576 (cCluster.lat hr l1) (by omega) (by omega)
    have e1 : ((A.put (some 7) (.agg vs.toArray)).put (some 8) (.int .i64 1048576)).eval (.tmp 7) = .agg vs.toArray := (put_ne (by omega)).trans (put_eq (by omega))
    have e2 : ((A.put (some 7) (.agg vs.toArray)).put (some 8) (.int .i64 1048576)).eval (.tmp 8) = .int .i64 1048576 := put_eq (by rw [put_sz]; omega)
    simpa only [List.map_toArray, List.map_cons, List.map_nil, e1, e2, vA] using hc
  rintro e V2 ⟨rfl, l2⟩
  refine ⟨_, rfl, ?_⟩
  refine wpl_assign (wpl_nil ?_)
  rw [put_eq (by rw [put_sz, put_sz]; omega)]
  have L2 : Below w.heap.size w V2 := l1.trans (l2.mono l1.size)
  have B2 := b1.later l2
  have k1 : ((((A.put (some 7) (.agg vs.toArray)).put (some 8) (.int .i64 1048576)).put (some 9) (.int .i64 (szL 1048576 (cCluster.tot x)))).put (some 3) (.int .i64 (szL 1048576 (cCluster.tot x)))).eval (.tmp 1) = .pointer (some ⟨w.heap.size, 0, none⟩) := (put_ne (by omega)).trans ((put_ne (by omega)).trans ((put_ne (by omega)).trans ((put_ne (by omega)).trans g1)))
  have k3 : ((((A.put (some 7) (.agg vs.toArray)).put (some 8) (.int .i64 1048576)).put (some 9) (.int .i64 (szL 1048576 (cCluster.tot x)))).put (some 3) (.int .i64 (szL 1048576 (cCluster.tot x)))).eval (.tmp 3) = .int .i64 (szL 1048576 (cCluster.tot x)) := put_eq (by rw [put_sz, put_sz, put_sz]; omega)
  have kz : ((((A.put (some 7) (.agg vs.toArray)).put (some 8) (.int .i64 1048576)).put (some 9) (.int .i64 (szL 1048576 (cCluster.tot x)))).put (some 3) (.int .i64 (szL 1048576 (cCluster.tot x)))).tmps.size = 27 := put_sz.trans (put_sz.trans (put_sz.trans (put_sz.trans gz)))
  have kd : ((((A.put (some 7) (.agg vs.toArray)).put (some 8) (.int .i64 1048576)).put (some 9) (.int .i64 (szL 1048576 (cCluster.tot x)))).put (some 3) (.int .i64 (szL 1048576 (cCluster.tot x)))).defers = [] := put_df.trans (put_df.trans (put_df.trans (put_df.trans gd)))
  generalize ((((A.put (some 7) (.agg vs.toArray)).put (some 8) (.int .i64 1048576)).put (some 9) (.int .i64 (szL 1048576 (cCluster.tot x)))).put (some 3) (.int .i64 (szL 1048576 (cCluster.tot x)))) = C at *
  clear g1 g3 gz gd
  refine wp_seq (wp_seq (wp_region_list ?_))
  refine wpl_move ?_
  rw [k3]
  refine wpl_bin (u := .int .i64 (szL 1048576 (cCluster.tot x))) (v := .int .i64 0) (put_eq (by omega)) rfl (run_lss V2) (wpl_nil ?_)
  by_cases ht : cCluster.tot x ≤ 1048576
  · have hnn := cCluster.nn x
    rw [szL_yes ht, decide_eq_false (by omega : ¬ (1048576 - cCluster.tot x : Int) < 0)]
    refine wp_cond_false (put_eq (by rw [put_sz]; omega)) (wp_skip ?_)
    have m1 : ((C.put (some 10) (.int .i64 (1048576 - cCluster.tot x))).put (some 11) (.bool false)).eval (.tmp 1) = .pointer (some ⟨w.heap.size, 0, none⟩) := (put_ne (by omega)).trans ((put_ne (by omega)).trans k1)
    have mz : ((C.put (some 10) (.int .i64 (1048576 - cCluster.tot x))).put (some 11) (.bool false)).tmps.size = 27 := put_sz.trans (put_sz.trans kz)
    have md : ((C.put (some 10) (.int .i64 (1048576 - cCluster.tot x))).put (some 11) (.bool false)).defers = [] := put_df.trans (put_df.trans kd)
    generalize ((C.put (some 10) (.int .i64 (1048576 - cCluster.tot x))).put (some 11) (.bool false)) = D at *
    clear k1 k3 kz kd
    have fTo : Fn Tryz.prog 6 := ⟨_, Tryz.func6, by kernel_rfl, by kernel_rfl⟩
    -- the specification's answer
    refine wp_seq (wp_region_list ?_)
    refine wpl_load rfl 31 (.tmp 1) rfl m1 vs (n := 8) ⟨by kernel_rfl, by kernel_rfl⟩ hvl (sg B2) ?_
    refine wpl_call fTo (R := fun e w' => ∃ us, e = .returned (vA us) ∧ cCluster.rep w' V2.heap.size us x ∧ Below V2.heap.size V2 w') ?_ ?_
    · have hc := toCluster_c vs x V2 (cCluster.lat hr L2) ht
      have e1 : (D.put (some 12) (.agg vs.toArray)).eval (.tmp 12) = .agg vs.toArray := put_eq (by omega)
      simpa only [List.map_toArray, List.map_cons, List.map_nil, e1, vA] using hc
    rintro e V3 ⟨u1, rfl, r1, l3⟩
    refine ⟨_, rfl, ?_⟩
    have hbo := sts_both (cCluster.low r1 (Nat.zero_le _)) ht
    refine wpl_call (R := fun e w' => e = .returned (.bool (allN (stG (cluR x)) (cluR x).length)) ∧ Below V3.heap.size V3 w') ⟨_, Tryz.func5, by kernel_rfl, by kernel_rfl⟩ ?_ ?_
    · have hc := hbo.1
      have e1 : ∀ v : Value, ((D.put (some 12) (.agg vs.toArray)).put (some 13) v).eval (.tmp 13) = v := fun v => put_eq (by rw [put_sz]; omega)
      simpa only [List.map_toArray, List.map_cons, List.map_nil, e1] using hc
    rintro e V4 ⟨rfl, l4⟩
    refine ⟨_, rfl, ?_⟩
    refine wpl_assign (wpl_nil ?_)
    rw [put_eq (by rw [put_sz, put_sz]; omega)]
    have L3 : Below w.heap.size w V3 := L2.trans (l3.mono L2.size)
    have L4 : Below w.heap.size w V4 := L3.trans (l4.mono L3.size)
    have B4 := (B2.later l3).later l4
    clear r1 hbo
    generalize hch : (allN (stG (cluR x)) (cluR x).length) = ch at *
    have n1 : ∀ v : Value, ((((D.put (some 12) (.agg vs.toArray)).put (some 13) v).put (some 14) (.bool ch)).put (some 4) (.bool ch)).eval (.tmp 1) = .pointer (some ⟨w.heap.size, 0, none⟩) := fun v => (put_ne (by omega)).trans ((put_ne (by omega)).trans ((put_ne (by omega)).trans ((put_ne (by omega)).trans m1)))
    have n4 : ∀ v : Value, ((((D.put (some 12) (.agg vs.toArray)).put (some 13) v).put (some 14) (.bool ch)).put (some 4) (.bool ch)).eval (.tmp 4) = .bool ch := fun v => put_eq (by rw [put_sz, put_sz, put_sz]; omega)
    have nz : ∀ v : Value, ((((D.put (some 12) (.agg vs.toArray)).put (some 13) v).put (some 14) (.bool ch)).put (some 4) (.bool ch)).tmps.size = 27 := fun v => put_sz.trans (put_sz.trans (put_sz.trans (put_sz.trans mz)))
    have nd : ∀ v : Value, ((((D.put (some 12) (.agg vs.toArray)).put (some 13) v).put (some 14) (.bool ch)).put (some 4) (.bool ch)).defers = [] := fun v => put_df.trans (put_df.trans (put_df.trans (put_df.trans md)))
    have n1 := n1 (vA u1)
    have n4 := n4 (vA u1)
    have nz := nz (vA u1)
    have nd := nd (vA u1)
    generalize ((((D.put (some 12) (.agg vs.toArray)).put (some 13) (vA u1)).put (some 14) (.bool ch)).put (some 4) (.bool ch)) = E at *
    clear m1 mz md
    -- the program's argument
    refine wp_seq (wp_region_list ?_)
    refine wpl_load rfl 31 (.tmp 1) rfl n1 vs (n := 8) ⟨by kernel_rfl, by kernel_rfl⟩ hvl (sg B4) ?_
    refine wpl_call fTo (R := fun e w' => ∃ us, e = .returned (vA us) ∧ cCluster.rep w' V4.heap.size us x ∧ Below V4.heap.size V4 w') ?_ ?_
    · have hc := toCluster_c vs x V4 (cCluster.lat hr L4) ht
      have e1 : (E.put (some 15) (.agg vs.toArray)).eval (.tmp 15) = .agg vs.toArray := put_eq (by omega)
      simpa only [List.map_toArray, List.map_cons, List.map_nil, e1, vA] using hc
    rintro e V5 ⟨u2, rfl, r2, l5⟩
    refine ⟨_, rfl, ?_⟩
    have hul : u2.length = 8 := (cCluster.len r2).trans hk
    have L5 : Below w.heap.size w V5 := L4.trans (l5.mono L4.size)
    have B5 := B4.later l5
    refine wpl_alloc (zs := [.slice none 0 0, .slice none 0 0, .slice none 0 0, .slice none 0 0, .slice none 0 0, .slice none 0 0, .slice none 0 0, .bool false]) (z := .agg #[.slice none 0 0, .slice none 0 0, .slice none 0 0, .slice none 0 0, .slice none 0 0, .slice none 0 0, .slice none 0 0, .bool false]) (by kernel_rfl) rfl ?_
    intro V6 b6 l6 z6
    refine wpl_store rfl 39 (.tmp 5) (.tmp 16) rfl (p := V5.heap.size) (off := 0) (put_eq (by rw [put_sz, put_sz]; omega)) ((put_ne (by omega)).trans (put_eq (by rw [put_sz]; omega))) u2 [] [.slice none 0 0, .slice none 0 0, .slice none 0 0, .slice none 0 0, .slice none 0 0, .slice none 0 0, .slice none 0 0, .bool false] [] (n := 8) rfl (cCluster.one r2) (by kernel_rfl) hul (by rw [List.nil_append, List.append_nil]; exact b6) rfl rfl ?_
    intro V7 b7 g7 z7
    rw [List.nil_append, List.append_nil] at b7
    have hB5 := B5.lt
    have B7 : Box V7 w.heap.size vs := (B5.later l6).other g7 (by omega)
    have L6 : Below w.heap.size w V6 := L5.trans (l6.mono L5.size)
    have L7 : Below w.heap.size w V7 := L6.grown g7 L6.size (fun q hq => by have := Option.some.inj hq; omega)
    have r7 : cCluster.rep V7 0 u2 x := by
      have h1 := cCluster.low r2 (Nat.zero_le _)
      have hB : Below V5.heap.size V5 V7 := l6.grown g7 l6.size (fun q hq => by have := Option.some.inj hq; omega)
      exact cCluster.lat h1 hB
    refine wpl_nil ?_
    have p1 : ((((E.put (some 15) (.agg vs.toArray)).put (some 16) (vA u2)).put (some 5) (.pointer (some ⟨V5.heap.size, 0, none⟩))).put none undef).eval (.tmp 1) = .pointer (some ⟨w.heap.size, 0, none⟩) := ev0.trans ((put_ne (by omega)).trans ((put_ne (by omega)).trans ((put_ne (by omega)).trans n1)))
    have p4 : ((((E.put (some 15) (.agg vs.toArray)).put (some 16) (vA u2)).put (some 5) (.pointer (some ⟨V5.heap.size, 0, none⟩))).put none undef).eval (.tmp 4) = .bool ch := ev0.trans ((put_ne (by omega)).trans ((put_ne (by omega)).trans ((put_ne (by omega)).trans n4)))
    have p5 : ((((E.put (some 15) (.agg vs.toArray)).put (some 16) (vA u2)).put (some 5) (.pointer (some ⟨V5.heap.size, 0, none⟩))).put none undef).eval (.tmp 5) = .pointer (some ⟨V5.heap.size, 0, none⟩) := ev0.trans (put_eq (by rw [put_sz, put_sz]; omega))
    have pz : ((((E.put (some 15) (.agg vs.toArray)).put (some 16) (vA u2)).put (some 5) (.pointer (some ⟨V5.heap.size, 0, none⟩))).put none undef).tmps.size = 27 := put_sz.trans (put_sz.trans (put_sz.trans (put_sz.trans nz)))
    have pd : ((((E.put (some 15) (.agg vs.toArray)).put (some 16) (vA u2)).put (some 5) (.pointer (some ⟨V5.heap.size, 0, none⟩))).put none undef).defers = [] := put_df.trans (put_df.trans (put_df.trans (put_df.trans nd)))
    generalize ((((E.put (some 15) (.agg vs.toArray)).put (some 16) (vA u2)).put (some 5) (.pointer (some ⟨V5.heap.size, 0, none⟩))).put none undef) = F at *
    clear n1 n4 nz nd
    -- the program's answer
    have sg5 : ∀ {V : World}, Box V V5.heap.size u2 → Seg V V5.heap.size 0 u2 := fun h => Box.seg (us := []) (ts := []) (by simpa using h) rfl
    refine wp_seq (wp_region_list ?_)
    refine wpl_load rfl 39 (.tmp 5) rfl p5 u2 (n := 8) ⟨by kernel_rfl, by kernel_rfl⟩ hul (sg5 b7) ?_
    refine wpl_call (R := fun e w' => e = .returned (.bool ch) ∧ Below V7.heap.size V7 w') ⟨_, Tryz.func7, by kernel_rfl, by kernel_rfl⟩ ?_ ?_
    · have hc := (sts_both r7 ht).2
      rw [hch] at hc
      have e1 : (F.put (some 17) (.agg u2.toArray)).eval (.tmp 17) = .agg u2.toArray := put_eq (by omega)
      simpa only [List.map_toArray, List.map_cons, List.map_nil, e1, vA] using hc
    rintro e V8 ⟨rfl, l8⟩
    refine ⟨_, rfl, ?_⟩
    refine wpl_assign (wpl_nil ?_)
    rw [put_eq (by rw [put_sz]; omega)]
    have L8 : Below w.heap.size w V8 := L7.trans (l8.mono L7.size)
    have B8 := B7.later l8
    have b8 := b7.later l8
    have r8 := cCluster.lat r7 l8
    refine wp_seq (wp_seq (wp_region_list ?_))
    refine wpl_move ?_
    rw [put_eq (by rw [put_sz, put_sz]; omega)]
    refine wpl_move ?_
    rw [put_ne (by omega), put_ne (by omega), put_ne (by omega), put_ne (by omega), p4]
    refine wpl_bin (u := .bool ch) (v := .bool ch) ((put_ne (by omega)).trans (put_eq (by rw [put_sz, put_sz, put_sz]; omega))) (put_eq (by rw [put_sz, put_sz, put_sz, put_sz]; omega)) (neq_bool (by kernel_rfl) _ _ V8) (wpl_nil ?_)
    refine wp_cond_false (put_eq (by rw [put_sz, put_sz, put_sz, put_sz, put_sz]; omega)) (wp_skip ?_)
    have q1 : ((((((F.put (some 17) (.agg u2.toArray)).put (some 18) (.bool ch)).put (some 6) (.bool ch)).put (some 19) (.bool ch)).put (some 20) (.bool ch)).put (some 21) (.bool false)).eval (.tmp 1) = .pointer (some ⟨w.heap.size, 0, none⟩) := (put_ne (by omega)).trans ((put_ne (by omega)).trans ((put_ne (by omega)).trans ((put_ne (by omega)).trans ((put_ne (by omega)).trans ((put_ne (by omega)).trans p1)))))
    have q5 : ((((((F.put (some 17) (.agg u2.toArray)).put (some 18) (.bool ch)).put (some 6) (.bool ch)).put (some 19) (.bool ch)).put (some 20) (.bool ch)).put (some 21) (.bool false)).eval (.tmp 5) = .pointer (some ⟨V5.heap.size, 0, none⟩) := (put_ne (by omega)).trans ((put_ne (by omega)).trans ((put_ne (by omega)).trans ((put_ne (by omega)).trans ((put_ne (by omega)).trans ((put_ne (by omega)).trans p5)))))
    have qz : ((((((F.put (some 17) (.agg u2.toArray)).put (some 18) (.bool ch)).put (some 6) (.bool ch)).put (some 19) (.bool ch)).put (some 20) (.bool ch)).put (some 21) (.bool false)).tmps.size = 27 := put_sz.trans (put_sz.trans (put_sz.trans (put_sz.trans (put_sz.trans (put_sz.trans pz)))))
    have qd : ((((((F.put (some 17) (.agg u2.toArray)).put (some 18) (.bool ch)).put (some 6) (.bool ch)).put (some 19) (.bool ch)).put (some 20) (.bool ch)).put (some 21) (.bool false)).defers = [] := put_df.trans (put_df.trans (put_df.trans (put_df.trans (put_df.trans (put_df.trans pd)))))
    generalize ((((((F.put (some 17) (.agg u2.toArray)).put (some 18) (.bool ch)).put (some 6) (.bool ch)).put (some 19) (.bool ch)).put (some 20) (.bool ch)).put (some 21) (.bool false)) = G at *
    clear p1 p4 p5 pz pd
    -- the argument is as it was
    refine wp_seq (wp_seq ?_)
    refine wp_region_held_drew (S := fun V => Below w.heap.size w V ∧ (Box V w.heap.size vs ∧ Box V V5.heap.size u2)) (by kernel_rfl) ⟨L8.drew, B8.later (Below.refl _ V8).drew, b8.later (Below.refl _ V8).drew⟩ (fun hS => ?_)
    refine dr_val 0 22 (v := .agg u2.toArray) rfl (by kernel_rfl) (fun c a d v w' hq => hpan c a d v w' hq) (fun V hV => by simp only [execOp, q5, Instr.loadAt, Instr.sureAddr, Sem.run_bind, Sem.run_pure, Result.andThen_ok, run_loadE (P := Tryz.prog) V (ty := 39) (us := u2) (by rw [hul]; exact ⟨by kernel_rfl, by kernel_rfl⟩) (sg5 hV.2.2)]) hS ?_
    refine dr_val 1 23 (v := .agg vs.toArray) rfl (by kernel_rfl) (fun c a d v w' hq => hpan c a d v w' hq) (fun V hV => by simp only [execOp, put_ne (a := G) (t := 22) (u := 1) (v := .agg u2.toArray) (by omega), q1, Instr.loadAt, Instr.sureAddr, Sem.run_bind, Sem.run_pure, Result.andThen_ok, run_loadE (P := Tryz.prog) V (ty := 31) (us := vs) (by rw [hvl]; exact ⟨by kernel_rfl, by kernel_rfl⟩) (sg hV.2.1)]) hS ?_
    refine dr_call 2 24 (R := fun e w' => ∃ us, e = .returned (vA us) ∧ cCluster.rep w' V8.drew.heap.size us x ∧ Below V8.drew.heap.size V8.drew w') rfl (by kernel_rfl) fTo ?_ ?_
    · have hc := toCluster_c vs x V8.drew (cCluster.lat hr L8.drew) ht
      have e1 : ((G.put (some 22) (.agg u2.toArray)).put (some 23) (.agg vs.toArray)).eval (.tmp 23) = .agg vs.toArray := put_eq (by rw [put_sz]; omega)
      simpa only [List.map_toArray, List.map_cons, List.map_nil, e1, vA] using hc
    rintro e V9 ⟨u3, rfl, r3, l9⟩
    refine ⟨_, rfl, ⟨hS.1.trans (l9.mono hS.1.size), hS.2.1.later l9, hS.2.2.later l9⟩, ?_⟩
    refine dr_call 3 25 (R := fun e w' => e = .returned (.bool true) ∧ Below V9.heap.size V9 w') rfl (by kernel_rfl) ⟨_, Tryz.func8, by kernel_rfl, by kernel_rfl⟩ ?_ ?_
    · have hc := eqCluster_c u2 u3 x V9 (cCluster.lat (cCluster.lat r8 (Below.refl _ V8).drew) l9) (cCluster.low r3 (Nat.zero_le _)) ht
      have e1 : ∀ v : Value, (((G.put (some 22) (.agg u2.toArray)).put (some 23) (.agg vs.toArray)).put (some 24) v).eval (.tmp 22) = .agg u2.toArray := fun v => (put_ne (by omega)).trans ((put_ne (by omega)).trans (put_eq (by omega)))
      have e2 : ∀ v : Value, (((G.put (some 22) (.agg u2.toArray)).put (some 23) (.agg vs.toArray)).put (some 24) v).eval (.tmp 24) = v := fun v => put_eq (by rw [put_sz, put_sz]; omega)
      simpa only [List.map_toArray, List.map_cons, List.map_nil, e1, e2, vA] using hc
    rintro e U ⟨rfl, lU⟩
    have L9 : Below w.heap.size w V9 := hS.1.trans (l9.mono hS.1.size)
    have LU : Below w.heap.size w U := L9.trans (lU.mono L9.size)
    refine ⟨_, rfl, ⟨LU, (hS.2.1.later l9).later lU, (hS.2.2.later l9).later lU⟩, ?_⟩
    refine dr_val 4 26 (v := .bool false) rfl (by kernel_rfl) (fun c a d v w' hq => hpan c a d v w' hq) (fun V _ => ?_) ⟨LU, (hS.2.1.later l9).later lU, (hS.2.2.later l9).later lU⟩ ?_
    · have e5 : ∀ v : Value, ((((G.put (some 22) (.agg u2.toArray)).put (some 23) (.agg vs.toArray)).put (some 24) v).put (some 25) (.bool true)).eval (.tmp 25) = .bool true := fun v => put_eq (by rw [put_sz, put_sz, put_sz]; omega)
      simp [execOp, e5, Op.unary]
    refine ⟨by kernel_rfl, ?_⟩
    refine wp_cond_false (put_eq (by rw [put_sz, put_sz, put_sz, put_sz]; omega)) (wp_skip ?_)
    refine wp_seq (wp_region_list (wpl_assign (wpl_nil (wp_ret ?_))))
    exact fns (put_eq (by rw [put_sz, put_sz, put_sz, put_sz, put_sz]; omega)) (put_df.trans (put_df.trans (put_df.trans (put_df.trans (put_df.trans (put_df.trans qd)))))) LU
  · rw [szL_no ht, decide_eq_true (by decide : (-1 : Int) < 0)]
    refine wp_cond_true (put_eq (by rw [put_sz]; omega)) (wp_seq (wp_region_list (wpl_assign (wpl_nil (wp_ret ?_)))))
    exact fns (put_eq (by rw [put_sz, put_sz]; omega)) (put_df.trans (put_df.trans (put_df.trans kd))) L2

theorem Tryz.ownE : ownKnob Tryz.prog.godebug = none := by kernel_rfl
theorem Tryz.laidOutE : laidOutB Tryz.prog = true := by kernel_rfl
set_option maxRecDepth 100000 in
set_option maxHeartbeats 4000000 in
theorem statesMatch_lifted (os : Os) (started : os.Started) (H : Type) (enc : TypeId × Value → H) :
    ReturnsInHanded {} Tryz.checked os 3 .any (Rows.fnExactStatesMatchSpec.pre6 enc Tryz.prog Tryz.f3 Rows.fnExactStatesMatchRow.domain false) (Rows.fnExactStatesMatchSpec.post enc Tryz.prog Tryz.f3 false true false false) := by
  refine returnsInHanded_of_change (C := Tryz.checked) Tryz.ownE started (by kernel_rfl) Tryz.func3
    (ChangeSpec.witness6 (enc := enc) (C := Tryz.checked) false ⟨#[], #[.agg #[.slice none 0 0, .slice none 0 0, .slice none 0 0, .slice none 0 0, .slice none 0 0, .slice none 0 0, .slice none 0 0, .bool false]], []⟩ 8 (by kernel_rfl) (by kernel_rfl) (by kernel_rfl) (by kernel_rfl)) ?_
  intro W base args ds gs before hval0 hW _ _
  have hval : ∀ (j : Nat) t v, Tryz.f3.params[j]? = some t → args[j]? = some v → Value.okWide Tryz.prog W .any base t v := hval0
  have hW' := hW
  obtain ⟨p, q, hA0, hV, rfl, _, _⟩ := hW
  have hA : DataW.TrodAll enc Tryz.prog W 0 (fun _ => true) true Tryz.f3.params.toList args.toList ds p := hA0
  rw [Tryz.params3] at hA hval
  obtain ⟨v0, d0, rfl, rfl, h0⟩ := trodAll_one hA
  obtain ⟨rfl, rfl⟩ := trodVars_none hV
  obtain ⟨cs, rfl, _⟩ := okWide_struct Tryz.underlying31 (hval 0 31 v0 rfl rfl)
  obtain ⟨fuel, hf⟩ := h0
  obtain ⟨y, hy⟩ := opCluster H enc W fuel cs.toList _ hf
  have h0 : DataW.Trod enc Tryz.prog W 0 (fun _ => true) true 31 (.agg cs) d0 p := ⟨fuel, hf⟩
  clear hA0 hval0
  simp only [List.append_nil] at hW'
  have hlt0 : ∀ x ∈ p, x.block < W.heap.size := fun x hx => by simpa using hW'.lt x hx
  have hlaw := lawStatesMatch cs.toList y W hy
  rw [show vA cs.toList = .agg cs by simp [vA]] at hlaw
  refine hlaw.mono fun e W' ⟨he, hb⟩ => ?_
  subst he
  exact ⟨_, rfl, ⟨_, _, _, [], p, [], hW', trodAll_mk1 (shut_bool Tryz.underlying4 true), trodAll_mk1 (Below.trod Tryz.laidOutE (by kernel_rfl) (of_decide_eq_true (by kernel_rfl)) h0 hb hlt0), rfl, hb.frame _, fun h => by cases h⟩⟩

theorem statesMatch_holds : Rows.FnExactStatesMatchSaid :=
  OpenClaim.holds_of_wide 3 Tryz.f3 rfl rfl rfl rfl rfl rfl rfl ⟨rfl, rfl, rfl, rfl, rfl⟩ rfl rfl rfl rfl rfl (by kernel_rfl) Tryz.func3 (by kernel_rfl)
    (of_decide_eq_true (by kernel_rfl)) (by unfold Func.isWrapper; rw [if_neg (of_decide_eq_false (by kernel_rfl))]; exact ⟨rfl, rfl⟩)
    (fun os started H enc _ => statesMatch_lifted os started H enc)

end Go.Proofs.YtjiplphfpkhmpaaGreat
