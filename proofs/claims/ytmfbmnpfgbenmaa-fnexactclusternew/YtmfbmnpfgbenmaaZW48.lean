/-
  The exact law of ClusterNew: its walk.
-/
import Derived.Test.YtmfbmnpfgbenmaaZW44
import Derived.Test.YtmfbmnpfgbenmaaZW45
import Derived.Test.YtmfbmnpfgbenmaaZW46
import Derived.Test.YtmfbmnpfgbenmaaZW47
namespace Go.Proofs.Ytmfbmnpfgbenmaa
open Go.ChangeShapes Go.WideShapes Go.ChangeAt Go.RowKit Go.Joins Go.Deep

section
variable {a : Act} {d : Option Tmp} {ty : TypeId} {ps : String} {af : Array Edge} {gd : Option (Nat × Bool)}
theorem ex_ext0 {P : Program} {x : Operand} {u v : Value} (hx : a.eval x = .tuple #[u, v]) (W : World) : (execOp a.eval (⟨d, .extract x 0, ty, ps, af, gd⟩ : Oper)).run P W = .ok (.value u) W := by
  simp [execOp, Instr.extract, hx]
theorem ex_ext1 {P : Program} {x : Operand} {u v : Value} (hx : a.eval x = .tuple #[u, v]) (W : World) : (execOp a.eval (⟨d, .extract x 1, ty, ps, af, gd⟩ : Oper)).run P W = .ok (.value v) W := by
  simp [execOp, Instr.extract, hx]
end
theorem ret_b {P : Program} {fn : Func} {R : Ending → World → Prop} {a : Act} {W : World} {N : Nat} {E : Nat → Option Value} {v : Value} (S : Env N E a) (hres : fn.results = #[.tmp 4]) (h : E 4 = some v) (hR : R (.returned v) W) : bodyPost P fn R .ret a W := z_ret hres (S.get 4 _ h) S.df hR
theorem int_tot {ps : List Int} (h : ps.length ≤ 1048576) : cIntS.tot ps ≤ 1048576 := by
  show (ps.length : Int) + sumT cInt.tot ps ≤ 1048576
  rw [sumT_zero (f := cInt.tot) (fun _ => rfl)]
  omega
theorem int_cnt {ps : List Int} : mIntS.cntV ps = ps.length := psum_one (f := mInt.cntF) (fun _ => rfl) ps

set_option maxRecDepth 20000 in
set_option maxHeartbeats 8000000 in
theorem lawClusterNew (nn : Int) (a0 : Option Addr) (m c0 : Nat) (ps : List Int) (w : World) (hm : m = ps.length) (hR : RowG KI w a0 ps) :
    Calls Try.prog 3 #[.int .i64 nn, .slice a0 m c0] w fun e w' => e = .returned (.bool true) ∧ Below w.heap.size w w' := by
  refine calls_of_wp Try.func3 rfl ?_
  refine env2 (N := 98) rfl (by decide) ?_
  intro a S
  have M : Below w.heap.size w w := Below.refl _ _
  refine wp_seq (wp_region_list ?_)
  refine wpl_val (ex_assign (v := (.bool false)) rfl _) ?_
  have S := S.put (by decide : 4 < 98) (.bool false)
  refine wpl_nil ?_
  have S := ((S.nil).add (S.get 0 _ rfl)).add (S.get 1 _ rfl)
  refine env_gen (C := fun a => Code.wp Try.prog _ _ a _) S ?_
  clear S; intro a S
  refine wp_seq (wp_seq (wp_region_list ?_))
  refine wpl_val (ex_move (S.get 1 _ rfl) _) ?_
  have S := S.put (by decide : 15 < 98) (.slice a0 m c0)
  refine wpl_val (ex_len (by kernel_rfl) (S.get 15 _ rfl) _) ?_
  have S := S.put (by decide : 16 < 98) (.int .i64 m)
  refine wpl_val (ex_bin (u := .int .i64 m) (v := .int .i64 1048576) (S.get 16 _ rfl) rfl _ (run_gtr _)) ?_
  have S := S.put (by decide : 17 < 98) (.bool (decide ((m : Int) > 1048576)))
  by_cases hbig : (m : Int) > 1048576
  · rw [decide_eq_true hbig] at S ⊢
    refine wpl_nil (wp_cond_true (S.get 17 _ rfl) (wp_seq (wp_region_list (wpl_val (ex_assign (v := .bool true) rfl _) (wpl_nil (wp_ret ?_))))))
    exact (ret_b (P := Try.prog) (fn := Try.f3) (R := fun e w' => e = .returned (.bool true) ∧ Below w.heap.size w w') (S.put (by decide : 4 < 98) (.bool true)) rfl rfl ⟨rfl, M⟩)
  rw [decide_eq_false hbig] at S ⊢
  refine wpl_nil ?_
  refine wp_cond_false (S.get 17 _ rfl) (wp_skip ?_)
  have S := ((S.nil).add (S.get 0 _ rfl)).add (S.get 1 _ rfl)
  refine env_gen (C := fun a => Code.wp Try.prog _ _ a _) S ?_
  clear S; intro a S
  have hl : m ≤ 1048576 := by omega
  refine wp_seq (wp_region_list ?_)
  refine wpl_val (ex_move (S.get 0 _ rfl) _) ?_
  have S := S.put (by decide : 19 < 98) (.int .i64 nn)
  refine wpl_val (ex_move (S.get 1 _ rfl) _) ?_
  have S := S.put (by decide : 20 < 98) (.slice a0 m c0)
  have zq0 : Act.eval _ (.tmp 20) = (.slice a0 m c0) := S.get 20 _ rfl
  refine wpl_call ⟨_, Try.func6, by kernel_rfl, by kernel_rfl⟩ (R := fun e V => ∃ g, e = .returned (.slice (some ⟨g, 0, none⟩) m m) ∧ OwnG KI 3 V w.heap.size (.slice (some ⟨g, 0, none⟩) m m) ps ∧ Below w.heap.size w V) ?_ ?_
  · have hc := toIntS_any a0 m c0 ps w hm (hR.later M) hl
    simp only [List.map_toArray, List.map_cons, List.map_nil, zq0]; exact hc
  rintro e V1 ⟨gA, rfl, OA, hb1⟩
  refine ⟨_, rfl, ?_⟩
  have M := M.trans (hb1.mono M.size)
  have z2 := hb1.size
  have S := S.put (by decide : 21 < 98) (.slice (some ⟨gA, 0, none⟩) m m)
  have zq0 : Act.eval _ (.tmp 19) = (.int .i64 nn) := S.get 19 _ rfl
  have zq1 : Act.eval _ (.tmp 21) = (.slice (some ⟨gA, 0, none⟩) m m) := S.get 21 _ rfl
  refine wpl_call ⟨_, Try.func5, by kernel_rfl, by kernel_rfl⟩ (R := fun e V => ∃ us, e = .returned (.tuple #[vA us, .bool (cnB nn ps)]) ∧ mCluster.own V (fun q => V1.heap.size ≤ q ∧ q < V.heap.size) us (cnX nn ps) ∧ Below V1.heap.size V1 V) ?_ ?_
  · have hc := sClusterNew_c nn (some ⟨gA, 0, none⟩) m m ps V1 hm OA.row hl (fun e => by cases e)
    simp only [List.map_toArray, List.map_cons, List.map_nil, zq0, zq1]; exact hc
  rintro e V3 ⟨us5, rfl, O5, hb2⟩
  refine ⟨_, rfl, ?_⟩
  have M := M.trans (hb2.mono M.size)
  have z4 := hb2.size
  have S := S.put (by decide : 22 < 98) (.tuple #[vA us5, .bool (cnB nn ps)])
  obtain ⟨D5, eD5⟩ : ∃ d, d = V1.heap.size := ⟨_, rfl⟩
  obtain ⟨T5, eT5⟩ : ∃ d, d = V3.heap.size := ⟨_, rfl⟩
  rw [← eD5, ← eT5] at O5
  have lenus5 : us5.length = 8 := mCluster.len O5
  have oneus5 := mCluster.one O5
  refine env_gen (C := fun a => wpList Try.prog _ _ _ a _) S ?_
  clear S; intro a S
  refine wpl_val (ex_move (S.get 22 _ rfl) _) ?_
  have S := S.put (by decide : 18 < 98) (.tuple #[vA us5, .bool (cnB nn ps)])
  refine wpl_val (ex_ext0 (S.get 18 _ rfl) _) ?_
  have S := S.put (by decide : 23 < 98) (vA us5)
  refine wpl_val (ex_ext1 (S.get 18 _ rfl) _) ?_
  have S := S.put (by decide : 24 < 98) (.bool (cnB nn ps))
  refine wpl_alloc (zs := clN) (z := .agg clN.toArray) (by kernel_rfl) rfl ?_
  intro X5 B5 l6 n7
  have p5 : ∃ p, p = V3.heap.size := ⟨_, rfl⟩
  obtain ⟨p5, ep5⟩ := p5
  rw [← ep5] at B5 ⊢
  have S := S.put (by decide : 5 < 98) (.pointer (some ⟨p5, 0, none⟩))
  refine wpl_store (off := 0) (n := 8) rfl 31 (.tmp 5) (.tmp 23) rfl (S.get 5 _ rfl) (S.get 23 _ rfl) us5 [] (clN) [] rfl oneus5 (by kernel_rfl) lenus5 (by rw [List.append_nil]; exact B5) rfl rfl ?_
  intro U8 B5 g9 _
  rw [List.nil_append, List.append_nil] at B5
  rw [put_none]
  have h10 : Below V3.heap.size V3 U8 := l6.grown g9 l6.size (fun q hq => by have := Option.some.inj hq; omega)
  have M := M.trans (h10.mono M.size)
  replace O5 := mCluster.lat O5 h10
  have z11 := h10.size
  refine wpl_val (ex_assign (S.get 24 _ rfl) _) ?_
  have S := S.put (by decide : 6 < 98) (.bool (cnB nn ps))
  refine wpl_nil ?_
  have S := ((((S.nil).add (S.get 0 _ rfl)).add (S.get 1 _ rfl)).add (S.get 5 _ rfl)).add (S.get 6 _ rfl)
  refine env_gen (C := fun a => Code.wp Try.prog _ _ a _) S ?_
  clear S; intro a S
  have hp5 : T5 ≤ p5 := by omega
  refine wp_seq (wp_region_list ?_)
  refine wpl_val (ex_move (S.get 1 _ rfl) _) ?_
  have S := S.put (by decide : 25 < 98) (.slice a0 m c0)
  have zq0 : Act.eval _ (.tmp 25) = (.slice a0 m c0) := S.get 25 _ rfl
  refine wpl_call ⟨_, Try.func6, by kernel_rfl, by kernel_rfl⟩ (R := fun e V => ∃ g, e = .returned (.slice (some ⟨g, 0, none⟩) m m) ∧ OwnG KI 3 V U8.heap.size (.slice (some ⟨g, 0, none⟩) m m) ps ∧ Below U8.heap.size U8 V) ?_ ?_
  · have hc := toIntS_any a0 m c0 ps U8 hm (hR.later M) hl
    simp only [List.map_toArray, List.map_cons, List.map_nil, zq0]; exact hc
  rintro e V12 ⟨g7, rfl, O7g, hb3⟩
  refine ⟨_, rfl, ?_⟩
  have B5 := B5.later hb3
  have M := M.trans (hb3.mono M.size)
  replace O5 := mCluster.lat O5 hb3
  have z13 := hb3.size
  have S := S.put (by decide : 26 < 98) (.slice (some ⟨g7, 0, none⟩) m m)
  have hg7 := O7g.lt g7 rfl
  have O7 := own_int O7g (by omega) (fun q => q = g7) (fun q hq => (Option.some.inj hq).symm)
  have hp57 : p5 < g7 := by omega
  refine wpl_val (ex_assign (S.get 26 _ rfl) _) ?_
  have S := S.put (by decide : 7 < 98) (.slice (some ⟨g7, 0, none⟩) m m)
  refine wpl_nil ?_
  have S := (((((S.nil).add (S.get 0 _ rfl)).add (S.get 1 _ rfl)).add (S.get 5 _ rfl)).add (S.get 6 _ rfl)).add (S.get 7 _ rfl)
  refine env_gen (C := fun a => Code.wp Try.prog _ _ a _) S ?_
  clear S; intro a S
  refine wp_seq (wp_region_list ?_)
  refine wpl_val (ex_move (S.get 0 _ rfl) _) ?_
  have S := S.put (by decide : 28 < 98) (.int .i64 nn)
  refine wpl_val (ex_move (S.get 7 _ rfl) _) ?_
  have S := S.put (by decide : 29 < 98) (.slice (some ⟨g7, 0, none⟩) m m)
  have zq0 : Act.eval _ (.tmp 28) = (.int .i64 nn) := S.get 28 _ rfl
  have zq1 : Act.eval _ (.tmp 29) = (.slice (some ⟨g7, 0, none⟩) m m) := S.get 29 _ rfl
  refine wpl_call ⟨_, Try.func7, by kernel_rfl, by kernel_rfl⟩ (R := fun e V => ∃ us, e = .returned (.tuple #[vA us, .bool (cnB nn ps)]) ∧ mCluster.own V (fun q => V12.heap.size ≤ q ∧ q < V.heap.size) us (cnX nn ps) ∧ Below V12.heap.size V12 V) ?_ ?_
  · have hc := iClusterNew_c nn (some ⟨g7, 0, none⟩) m m ps V12 hm O7g.row hl
    simp only [List.map_toArray, List.map_cons, List.map_nil, zq0, zq1]; exact hc
  rintro e V14 ⟨us8, rfl, O8, hb5⟩
  refine ⟨_, rfl, ?_⟩
  have B5 := B5.later hb5
  have M := M.trans (hb5.mono M.size)
  replace O5 := mCluster.lat O5 hb5
  have O7g := O7g.later hb5
  replace O7 := mIntS.lat O7 hb5
  have z15 := hb5.size
  have S := S.put (by decide : 30 < 98) (.tuple #[vA us8, .bool (cnB nn ps)])
  obtain ⟨D8, eD8⟩ : ∃ d, d = V12.heap.size := ⟨_, rfl⟩
  obtain ⟨T8, eT8⟩ : ∃ d, d = V14.heap.size := ⟨_, rfl⟩
  rw [← eD8, ← eT8] at O8
  have lenus8 : us8.length = 8 := mCluster.len O8
  have oneus8 := mCluster.one O8
  refine env_gen (C := fun a => wpList Try.prog _ _ _ a _) S ?_
  clear S; intro a S
  have hg78 : g7 < D8 := by omega
  refine wpl_val (ex_move (S.get 30 _ rfl) _) ?_
  have S := S.put (by decide : 27 < 98) (.tuple #[vA us8, .bool (cnB nn ps)])
  refine wpl_val (ex_ext0 (S.get 27 _ rfl) _) ?_
  have S := S.put (by decide : 31 < 98) (vA us8)
  refine wpl_val (ex_ext1 (S.get 27 _ rfl) _) ?_
  have S := S.put (by decide : 32 < 98) (.bool (cnB nn ps))
  refine wpl_alloc (zs := clN) (z := .agg clN.toArray) (by kernel_rfl) rfl ?_
  intro X16 B8 l17 n18
  have p8 : ∃ p, p = V14.heap.size := ⟨_, rfl⟩
  obtain ⟨p8, ep8⟩ := p8
  rw [← ep8] at B8 ⊢
  have S := S.put (by decide : 8 < 98) (.pointer (some ⟨p8, 0, none⟩))
  refine wpl_store (off := 0) (n := 8) rfl 31 (.tmp 8) (.tmp 31) rfl (S.get 8 _ rfl) (S.get 31 _ rfl) us8 [] (clN) [] rfl oneus8 (by kernel_rfl) lenus8 (by rw [List.append_nil]; exact B8) rfl rfl ?_
  intro U19 B8 g20 _
  rw [List.nil_append, List.append_nil] at B8
  rw [put_none]
  have h21 : Below V14.heap.size V14 U19 := l17.grown g20 l17.size (fun q hq => by have := Option.some.inj hq; omega)
  have B5 := B5.later h21
  have M := M.trans (h21.mono M.size)
  replace O5 := mCluster.lat O5 h21
  have O7g := O7g.later h21
  replace O7 := mIntS.lat O7 h21
  replace O8 := mCluster.lat O8 h21
  have z22 := h21.size
  refine wpl_val (ex_assign (S.get 32 _ rfl) _) ?_
  have S := S.put (by decide : 9 < 98) (.bool (cnB nn ps))
  refine wpl_nil ?_
  have S := (((((((S.nil).add (S.get 0 _ rfl)).add (S.get 1 _ rfl)).add (S.get 5 _ rfl)).add (S.get 6 _ rfl)).add (S.get 7 _ rfl)).add (S.get 8 _ rfl)).add (S.get 9 _ rfl)
  refine env_gen (C := fun a => Code.wp Try.prog _ _ a _) S ?_
  clear S; intro a S
  have hp8 : T8 ≤ p8 := by omega
  have hDT : D8 ≤ T8 := by omega
  have hT5 : T5 ≤ g7 := by omega
  refine wp_seq (wp_seq (wp_region_list ?_))
  refine wpl_val (ex_agg (us := us8) (n := 8) (S.get 8 _ rfl) ⟨by kernel_rfl, by kernel_rfl⟩ lenus8 _ (box_seg B8)) ?_
  have S := S.put (by decide : 33 < 98) (.agg (List.toArray us8))
  refine wpl_val (ex_agg (us := us5) (n := 8) (S.get 5 _ rfl) ⟨by kernel_rfl, by kernel_rfl⟩ lenus5 _ (box_seg B5)) ?_
  have S := S.put (by decide : 34 < 98) (.agg (List.toArray us5))
  have zq0 : Act.eval _ (.tmp 33) = (.agg (List.toArray us8)) := S.get 33 _ rfl
  have zq1 : Act.eval _ (.tmp 34) = (.agg (List.toArray us5)) := S.get 34 _ rfl
  refine wpl_call ⟨_, Try.func8, by kernel_rfl, by kernel_rfl⟩ (R := fun e V => e = .returned (.bool true) ∧ Below U19.heap.size U19 V) ?_ ?_
  · have hc := eqCluster_c us8 us5 (cnX nn ps) U19 (mCluster.rep0 O8) (mCluster.rep0 O5) (cn_tot nn ps)
    simp only [List.map_toArray, List.map_cons, List.map_nil, zq0, zq1]; exact hc
  rintro e V24 ⟨rfl, hb23⟩
  refine ⟨_, rfl, ?_⟩
  have B5 := B5.later hb23
  have B8 := B8.later hb23
  have M := M.trans (hb23.mono M.size)
  replace O5 := mCluster.lat O5 hb23
  have O7g := O7g.later hb23
  replace O7 := mIntS.lat O7 hb23
  replace O8 := mCluster.lat O8 hb23
  have z25 := hb23.size
  have S := S.put (by decide : 35 < 98) (.bool true)
  refine wpl_val (ex_not (S.get 35 _ rfl) _) ?_
  have S := S.put (by decide : 36 < 98) (.bool (!true))
  refine wpl_val (ex_move (S.get 36 _ rfl) _) ?_
  have S := S.put (by decide : 37 < 98) (.bool (!true))
  refine env_gen (C := fun a => wpList Try.prog _ _ _ a _) S ?_
  clear S; intro a S
  refine wg_yes (j := 4) (t := 37) (b := false) rfl (S.get 37 _ rfl) (by rw [S.sz]; decide) (ex_move (S.get 9 _ rfl) _) ?_
  have S := S.put (by decide : 38 < 98) (.bool (cnB nn ps))
  refine env_gen (C := fun a => wpList Try.prog _ _ _ a _) S ?_
  clear S; intro a S
  refine wg_yes (j := 4) (t := 37) (b := false) rfl (S.get 37 _ rfl) (by rw [S.sz]; decide) (ex_move (S.get 6 _ rfl) _) ?_
  have S := S.put (by decide : 39 < 98) (.bool (cnB nn ps))
  refine env_gen (C := fun a => wpList Try.prog _ _ _ a _) S ?_
  clear S; intro a S
  refine wg_yes (j := 4) (t := 37) (b := false) rfl (S.get 37 _ rfl) (by rw [S.sz]; decide) (ex_bin (u := .bool (cnB nn ps)) (v := .bool (cnB nn ps)) (S.get 38 _ rfl) (S.get 39 _ rfl) _ (neq_bool (by kernel_rfl) _ _ _)) ?_
  have S := S.put (by decide : 40 < 98) (.bool false)
  refine env_gen (C := fun a => wpList Try.prog _ _ _ a _) S ?_
  clear S; intro a S
  refine wpl_val (ex_pickF (v := .bool false) (S.get 37 _ rfl) (S.get 40 _ rfl) _) ?_
  have S := S.put (by decide : 41 < 98) (.bool false)
  refine wpl_nil ?_
  refine wp_cond_false (S.get 41 _ rfl) (wp_skip ?_)
  have S := (((((((S.nil).add (S.get 0 _ rfl)).add (S.get 1 _ rfl)).add (S.get 5 _ rfl)).add (S.get 6 _ rfl)).add (S.get 7 _ rfl)).add (S.get 8 _ rfl)).add (S.get 9 _ rfl)
  refine env_gen (C := fun a => Code.wp Try.prog _ _ a _) S ?_
  clear S; intro a S
  refine wp_seq (wp_seq (wp_region_list ?_))
  refine wpl_val (ex_move (S.get 7 _ rfl) _) ?_
  have S := S.put (by decide : 42 < 98) (.slice (some ⟨g7, 0, none⟩) m m)
  refine wpl_val (ex_move (S.get 1 _ rfl) _) ?_
  have S := S.put (by decide : 43 < 98) (.slice a0 m c0)
  have zq0 : Act.eval _ (.tmp 43) = (.slice a0 m c0) := S.get 43 _ rfl
  refine wpl_call ⟨_, Try.func6, by kernel_rfl, by kernel_rfl⟩ (R := fun e V => ∃ g, e = .returned (.slice (some ⟨g, 0, none⟩) m m) ∧ OwnG KI 3 V V24.heap.size (.slice (some ⟨g, 0, none⟩) m m) ps ∧ Below V24.heap.size V24 V) ?_ ?_
  · have hc := toIntS_any a0 m c0 ps V24 hm (hR.later M) hl
    simp only [List.map_toArray, List.map_cons, List.map_nil, zq0]; exact hc
  rintro e V26 ⟨gE, rfl, OE, hbE⟩
  refine ⟨_, rfl, ?_⟩
  have B5 := B5.later hbE
  have B8 := B8.later hbE
  have M := M.trans (hbE.mono M.size)
  replace O5 := mCluster.lat O5 hbE
  have O7g := O7g.later hbE
  replace O7 := mIntS.lat O7 hbE
  replace O8 := mCluster.lat O8 hbE
  have z27 := hbE.size
  have S := S.put (by decide : 44 < 98) (.slice (some ⟨gE, 0, none⟩) m m)
  have zq0 : Act.eval _ (.tmp 42) = (.slice (some ⟨g7, 0, none⟩) m m) := S.get 42 _ rfl
  have zq1 : Act.eval _ (.tmp 44) = (.slice (some ⟨gE, 0, none⟩) m m) := S.get 44 _ rfl
  refine wpl_call ⟨_, Try.func9, by kernel_rfl, by kernel_rfl⟩ (R := fun e V => e = .returned (.bool true) ∧ Below V26.heap.size V26 V) ?_ ?_
  · have hc := eqIntS_c [.slice (some ⟨g7, 0, none⟩) m m] [.slice (some ⟨gE, 0, none⟩) m m] ps V26 (mIntS.rep0 O7) (mIntS.rep0 (own_int OE (by omega) (fun _ => True) (fun _ _ => trivial))) (int_tot (by omega))
    simp only [List.map_toArray, List.map_cons, List.map_nil, zq0, zq1]; exact hc
  rintro e V28 ⟨rfl, hbF⟩
  refine ⟨_, rfl, ?_⟩
  have B5 := B5.later hbF
  have B8 := B8.later hbF
  have M := M.trans (hbF.mono M.size)
  replace O5 := mCluster.lat O5 hbF
  have O7g := O7g.later hbF
  replace O7 := mIntS.lat O7 hbF
  replace O8 := mCluster.lat O8 hbF
  have z29 := hbF.size
  have S := S.put (by decide : 45 < 98) (.bool true)
  refine wpl_val (ex_not (S.get 45 _ rfl) _) ?_
  have S := S.put (by decide : 46 < 98) (.bool (!true))
  refine wpl_nil ?_
  refine wp_cond_false (S.get 46 _ rfl) (wp_skip ?_)
  have S := (((((((S.nil).add (S.get 0 _ rfl)).add (S.get 1 _ rfl)).add (S.get 5 _ rfl)).add (S.get 6 _ rfl)).add (S.get 7 _ rfl)).add (S.get 8 _ rfl)).add (S.get 9 _ rfl)
  refine env_gen (C := fun a => Code.wp Try.prog _ _ a _) S ?_
  clear S; intro a S
  refine wp_seq (wp_region_list ?_)
  refine wpl_val (ex_assign (v := (.int .i64 1)) rfl _) ?_
  have S := S.put (by decide : 10 < 98) (.int .i64 1)
  refine wpl_nil ?_
  have S := ((((((((S.nil).add (S.get 0 _ rfl)).add (S.get 1 _ rfl)).add (S.get 5 _ rfl)).add (S.get 6 _ rfl)).add (S.get 7 _ rfl)).add (S.get 8 _ rfl)).add (S.get 9 _ rfl)).add (S.get 10 _ rfl)
  refine env_gen (C := fun a => Code.wp Try.prog _ _ a _) S ?_
  clear S; intro a S
  refine wp_seq (wp_region_list ?_)
  refine wpl_val (ex_move (S.get 7 _ rfl) _) ?_
  have S := S.put (by decide : 47 < 98) (.slice (some ⟨g7, 0, none⟩) m m)
  refine wpl_val (ex_move (S.get 10 _ rfl) _) ?_
  have S := S.put (by decide : 48 < 98) (.int .i64 1)
  have hw5 : w.heap.size ≤ D5 := by omega
  have zq0 : Act.eval _ (.tmp 47) = (.slice (some ⟨g7, 0, none⟩) m m) := S.get 47 _ rfl
  have zq1 : Act.eval _ (.tmp 48) = (.int .i64 1) := S.get 48 _ rfl
  refine wpl_call ⟨_, Try.func10, by kernel_rfl, by kernel_rfl⟩ (R := fun e V => e = .returned (.int .i64 (1 + (mIntS.cntV ps : Nat))) ∧ Chg (fun q => q = g7) V28 V ∧ ∃ x', mIntS.own V (fun q => q = g7) [.slice (some ⟨g7, 0, none⟩) m m] x' ∧ mIntS.byv x' 1 ∧ mIntS.cntV x' = mIntS.cntV ps) ?_ ?_
  · have hc := mkIntS_c [.slice (some ⟨g7, 0, none⟩) m m] ps V28 (fun q => q = g7) 1 O7 (by decide) (by rw [int_cnt]; omega)
    simp only [List.map_toArray, List.map_cons, List.map_nil, zq0, zq1]; exact hc
  rintro e V30 ⟨rfl, hch, x8, hx8⟩
  refine ⟨_, rfl, ?_⟩
  replace B5 := B5.chg hch (fun hq => by omega)
  replace B8 := B8.chg hch (fun hq => by omega)
  replace O5 := mCluster.chg O5 hch (fun q h1 h2 => by omega)
  replace O8 := mCluster.chg O8 hch (fun q h1 h2 => by omega)
  replace M := M.trans (hch.below M.size (fun q hq => by omega))
  have S := S.put (by decide : 49 < 98) (.int .i64 (1 + (mIntS.cntV ps : Nat)))
  clear hch hx8 x8
  refine wpl_val (ex_assign (S.get 49 _ rfl) _) ?_
  have S := S.put (by decide : 10 < 98) (.int .i64 (1 + (mIntS.cntV ps : Nat)))
  refine wpl_nil ?_
  have S := (((((((S.nil).add (S.get 0 _ rfl)).add (S.get 1 _ rfl)).add (S.get 5 _ rfl)).add (S.get 6 _ rfl)).add (S.get 8 _ rfl)).add (S.get 9 _ rfl)).add (S.get 10 _ rfl)
  refine env_gen (C := fun a => Code.wp Try.prog _ _ a _) S ?_
  clear S; intro a S
  obtain ⟨kk, hkk⟩ : ∃ kk : Int, kk = 1 + (mIntS.cntV ps : Nat) := ⟨_, rfl⟩
  rw [← hkk] at S
  refine wp_seq (wp_seq (wp_region_list ?_))
  refine wpl_val (ex_move (S.get 10 _ rfl) _) ?_
  have S := S.put (by decide : 50 < 98) (.int .i64 kk)
  refine wpl_val (ex_bin (u := .int .i64 kk) (v := .int .i64 0) (S.get 50 _ rfl) rfl _ (run_lss _)) ?_
  rw [decide_eq_false (by omega : ¬ kk < 0)]
  have S := S.put (by decide : 51 < 98) (.bool false)
  refine wpl_val (ex_move (S.get 51 _ rfl) _) ?_
  have S := S.put (by decide : 52 < 98) (.bool false)
  refine env_gen (C := fun a => wpList Try.prog _ _ _ a _) S ?_
  clear S; intro a S
  refine wg_yes (j := 2) (t := 52) (b := false) rfl (S.get 52 _ rfl) (by rw [S.sz]; decide) (ex_agg (us := us8) (n := 8) (S.get 8 _ rfl) ⟨by kernel_rfl, by kernel_rfl⟩ lenus8 _ (box_seg B8)) ?_
  have S := S.put (by decide : 53 < 98) (.agg (List.toArray us8))
  refine env_gen (C := fun a => wpList Try.prog _ _ _ a _) S ?_
  clear S; intro a S
  refine wg_yes (j := 2) (t := 52) (b := false) rfl (S.get 52 _ rfl) (by rw [S.sz]; decide) (ex_agg (us := us5) (n := 8) (S.get 5 _ rfl) ⟨by kernel_rfl, by kernel_rfl⟩ lenus5 _ (box_seg B5)) ?_
  have S := S.put (by decide : 54 < 98) (.agg (List.toArray us5))
  refine env_gen (C := fun a => wpList Try.prog _ _ _ a _) S ?_
  clear S; intro a S
  have zq0 : Act.eval _ (.tmp 53) = .agg (List.toArray us8) := S.get 53 _ rfl
  have zq1 : Act.eval _ (.tmp 54) = .agg (List.toArray us5) := S.get 54 _ rfl
  refine wg_call (R := fun e V => e = .returned (.bool true) ∧ Below V30.heap.size V30 V) (wan_yes (j := 2) (t := 52) (b := false) rfl (S.get 52 _ rfl) (by rw [S.sz]; decide)) ⟨_, Try.func8, by kernel_rfl, by kernel_rfl⟩ ?_ ?_
  · have hc := eqCluster_c us8 us5 (cnX nn ps) V30 (mCluster.rep0 O8) (mCluster.rep0 O5) (cn_tot nn ps)
    simp only [List.map_toArray, List.map_cons, List.map_nil, zq0, zq1]; exact hc
  rintro e VG ⟨rfl, hbG⟩
  refine ⟨_, rfl, ?_⟩
  have B5 := B5.later hbG
  have B8 := B8.later hbG
  have M := M.trans (hbG.mono M.size)
  replace O5 := mCluster.lat O5 hbG
  replace O8 := mCluster.lat O8 hbG
  have z31 := hbG.size
  have S := S.put (by decide : 55 < 98) (.bool true)
  refine env_gen (C := fun a => wpList Try.prog _ _ _ a _) S ?_
  clear S; intro a S
  refine wg_yes (j := 2) (t := 52) (b := false) rfl (S.get 52 _ rfl) (by rw [S.sz]; decide) (ex_not (b := true) (S.get 55 _ rfl) _) ?_
  have S := S.put (by decide : 56 < 98) (.bool (!true))
  refine env_gen (C := fun a => wpList Try.prog _ _ _ a _) S ?_
  clear S; intro a S
  refine wpl_val (ex_pickF (v := .bool (!true)) (S.get 52 _ rfl) (S.get 56 _ rfl) _) ?_
  have S := S.put (by decide : 57 < 98) (.bool (!true))
  refine wpl_val (ex_move (S.get 57 _ rfl) _) ?_
  have S := S.put (by decide : 58 < 98) (.bool (!true))
  refine env_gen (C := fun a => wpList Try.prog _ _ _ a _) S ?_
  clear S; intro a S
  refine wg_yes (j := 8) (t := 58) (b := false) rfl (S.get 58 _ rfl) (by rw [S.sz]; decide) (ex_move (S.get 9 _ rfl) _) ?_
  have S := S.put (by decide : 59 < 98) (.bool (cnB nn ps))
  refine env_gen (C := fun a => wpList Try.prog _ _ _ a _) S ?_
  clear S; intro a S
  refine wg_yes (j := 8) (t := 58) (b := false) rfl (S.get 58 _ rfl) (by rw [S.sz]; decide) (ex_move (S.get 6 _ rfl) _) ?_
  have S := S.put (by decide : 60 < 98) (.bool (cnB nn ps))
  refine env_gen (C := fun a => wpList Try.prog _ _ _ a _) S ?_
  clear S; intro a S
  refine wg_yes (j := 8) (t := 58) (b := false) rfl (S.get 58 _ rfl) (by rw [S.sz]; decide) (ex_bin (u := .bool (cnB nn ps)) (v := .bool (cnB nn ps)) (S.get 59 _ rfl) (S.get 60 _ rfl) _ (neq_bool (by kernel_rfl) _ _ _)) ?_
  have S := S.put (by decide : 61 < 98) (.bool false)
  refine env_gen (C := fun a => wpList Try.prog _ _ _ a _) S ?_
  clear S; intro a S
  refine wpl_val (ex_pickF (v := .bool false) (S.get 58 _ rfl) (S.get 61 _ rfl) _) ?_
  have S := S.put (by decide : 62 < 98) (.bool false)
  refine wpl_nil ?_
  refine wp_cond_false (S.get 62 _ rfl) (wp_skip ?_)
  have S := ((((((S.nil).add (S.get 0 _ rfl)).add (S.get 1 _ rfl)).add (S.get 5 _ rfl)).add (S.get 6 _ rfl)).add (S.get 8 _ rfl)).add (S.get 9 _ rfl)
  refine env_gen (C := fun a => Code.wp Try.prog _ _ a _) S ?_
  clear S; intro a S
  refine wp_seq (wp_region_list ?_)
  refine wpl_val (ex_assign (v := (.int .i64 1)) rfl _) ?_
  have S := S.put (by decide : 11 < 98) (.int .i64 1)
  refine wpl_nil ?_
  have S := ((((((S.nil).add (S.get 0 _ rfl)).add (S.get 1 _ rfl)).add (S.get 5 _ rfl)).add (S.get 6 _ rfl)).add (S.get 8 _ rfl)).add (S.get 11 _ rfl)
  refine env_gen (C := fun a => Code.wp Try.prog _ _ a _) S ?_
  clear S; intro a S
  refine wp_seq (wp_region_list ?_)
  refine wpl_val (ex_agg (us := us8) (n := 8) (S.get 8 _ rfl) ⟨by kernel_rfl, by kernel_rfl⟩ lenus8 _ (box_seg B8)) ?_
  have S := S.put (by decide : 63 < 98) (.agg (List.toArray us8))
  refine wpl_val (ex_move (S.get 11 _ rfl) _) ?_
  have S := S.put (by decide : 64 < 98) (.int .i64 1)
  have hcs := cn_cnt nn ps
  have zq0 : Act.eval _ (.tmp 63) = (.agg (List.toArray us8)) := S.get 63 _ rfl
  have zq1 : Act.eval _ (.tmp 64) = (.int .i64 1) := S.get 64 _ rfl
  refine wpl_call ⟨_, Try.func11, by kernel_rfl, by kernel_rfl⟩ (R := fun e V => e = .returned (.int .i64 (1 + (mCluster.cntV (cnX nn ps) : Nat))) ∧ Chg (fun q => D8 ≤ q ∧ q < T8) VG V ∧ ∃ x', mCluster.own V (fun q => D8 ≤ q ∧ q < T8) us8 x' ∧ mCluster.byv x' 1 ∧ mCluster.cntV x' = mCluster.cntV (cnX nn ps)) ?_ ?_
  · have hc := mkCluster_c us8 (cnX nn ps) VG _ 1 O8 (by decide) (by omega)
    simp only [List.map_toArray, List.map_cons, List.map_nil, zq0, zq1]; exact hc
  rintro e V32 ⟨rfl, hch, x8, hx8⟩
  refine ⟨_, rfl, ?_⟩
  replace B5 := B5.chg hch (fun hq => by omega)
  replace B8 := B8.chg hch (fun hq => by omega)
  replace O5 := mCluster.chg O5 hch (fun q h1 h2 => by omega)
  replace M := M.trans (hch.below M.size (fun q hq => by omega))
  have S := S.put (by decide : 65 < 98) (.int .i64 (1 + (mCluster.cntV (cnX nn ps) : Nat)))
  obtain ⟨O8x, hby, hcx⟩ := hx8
  clear hch O8
  refine wpl_val (ex_assign (S.get 65 _ rfl) _) ?_
  have S := S.put (by decide : 11 < 98) (.int .i64 (1 + (mCluster.cntV (cnX nn ps) : Nat)))
  refine wpl_nil ?_
  have S := ((((((S.nil).add (S.get 0 _ rfl)).add (S.get 1 _ rfl)).add (S.get 5 _ rfl)).add (S.get 6 _ rfl)).add (S.get 8 _ rfl)).add (S.get 11 _ rfl)
  refine env_gen (C := fun a => Code.wp Try.prog _ _ a _) S ?_
  clear S; intro a S
  obtain ⟨mm, hmm⟩ : ∃ mm : Int, mm = 1 + (mCluster.cntV (cnX nn ps) : Nat) := ⟨_, rfl⟩
  rw [← hmm] at S
  refine wp_seq (wp_region_list ?_)
  refine wpl_val (ex_assign (v := (.int .i64 1)) rfl _) ?_
  have S := S.put (by decide : 12 < 98) (.int .i64 1)
  refine wpl_nil ?_
  have S := (((((((S.nil).add (S.get 0 _ rfl)).add (S.get 1 _ rfl)).add (S.get 5 _ rfl)).add (S.get 6 _ rfl)).add (S.get 8 _ rfl)).add (S.get 11 _ rfl)).add (S.get 12 _ rfl)
  refine env_gen (C := fun a => Code.wp Try.prog _ _ a _) S ?_
  clear S; intro a S
  refine wp_seq (wp_region_list ?_)
  refine wpl_val (ex_agg (us := us8) (n := 8) (S.get 8 _ rfl) ⟨by kernel_rfl, by kernel_rfl⟩ lenus8 _ (box_seg B8)) ?_
  have S := S.put (by decide : 66 < 98) (.agg (List.toArray us8))
  refine wpl_val (ex_move (S.get 12 _ rfl) _) ?_
  have S := S.put (by decide : 67 < 98) (.int .i64 1)
  have zq0 : Act.eval _ (.tmp 66) = (.agg (List.toArray us8)) := S.get 66 _ rfl
  have zq1 : Act.eval _ (.tmp 67) = (.int .i64 1) := S.get 67 _ rfl
  refine wpl_call ⟨_, Try.func12, by kernel_rfl, by kernel_rfl⟩ (R := fun e V => e = .returned (.int .i64 mm) ∧ Below V32.heap.size V32 V) ?_ ?_
  · have hc := hdCluster_c us8 x8 V32 1 (mCluster.rep0 O8x) hby (by decide) (by omega); rw [hcx, ← hmm] at hc
    simp only [List.map_toArray, List.map_cons, List.map_nil, zq0, zq1]; exact hc
  rintro e V34 ⟨rfl, hb33⟩
  refine ⟨_, rfl, ?_⟩
  have B5 := B5.later hb33
  have B8 := B8.later hb33
  have M := M.trans (hb33.mono M.size)
  replace O5 := mCluster.lat O5 hb33
  replace O8x := mCluster.lat O8x hb33
  have z35 := hb33.size
  have S := S.put (by decide : 68 < 98) (.int .i64 mm)
  refine wpl_val (ex_assign (S.get 68 _ rfl) _) ?_
  have S := S.put (by decide : 12 < 98) (.int .i64 mm)
  refine wpl_nil ?_
  have S := (((((((S.nil).add (S.get 0 _ rfl)).add (S.get 1 _ rfl)).add (S.get 5 _ rfl)).add (S.get 6 _ rfl)).add (S.get 8 _ rfl)).add (S.get 11 _ rfl)).add (S.get 12 _ rfl)
  refine env_gen (C := fun a => Code.wp Try.prog _ _ a _) S ?_
  clear S; intro a S
  refine wp_seq (wp_seq (wp_region_list ?_))
  refine wpl_val (ex_move (S.get 12 _ rfl) _) ?_
  have S := S.put (by decide : 69 < 98) (.int .i64 mm)
  refine wpl_val (ex_bin (u := .int .i64 mm) (v := .int .i64 0) (S.get 69 _ rfl) rfl _ (run_lss _)) ?_
  rw [decide_eq_false (by omega : ¬ mm < 0)]
  have S := S.put (by decide : 70 < 98) (.bool false)
  refine wpl_nil ?_
  refine wp_cond_false (S.get 70 _ rfl) (wp_skip ?_)
  have S := (((((((S.nil).add (S.get 0 _ rfl)).add (S.get 1 _ rfl)).add (S.get 5 _ rfl)).add (S.get 6 _ rfl)).add (S.get 8 _ rfl)).add (S.get 11 _ rfl)).add (S.get 12 _ rfl)
  refine env_gen (C := fun a => Code.wp Try.prog _ _ a _) S ?_
  clear S; intro a S
  refine wp_seq (wp_seq (wp_region_list ?_))
  refine wpl_val (ex_move (S.get 12 _ rfl) _) ?_
  have S := S.put (by decide : 71 < 98) (.int .i64 mm)
  refine wpl_val (ex_move (S.get 11 _ rfl) _) ?_
  have S := S.put (by decide : 72 < 98) (.int .i64 mm)
  refine wpl_val (ex_bin (u := .int .i64 mm) (v := .int .i64 mm) (S.get 71 _ rfl) (S.get 72 _ rfl) _ (neq_int _ _ _)) ?_
  have S := S.put (by decide : 73 < 98) (.bool false)
  refine wpl_nil ?_
  refine wp_cond_false (S.get 73 _ rfl) (wp_skip ?_)
  have S := ((((((S.nil).add (S.get 0 _ rfl)).add (S.get 1 _ rfl)).add (S.get 5 _ rfl)).add (S.get 6 _ rfl)).add (S.get 8 _ rfl)).add (S.get 11 _ rfl)
  refine env_gen (C := fun a => Code.wp Try.prog _ _ a _) S ?_
  clear S; intro a S
  refine wp_seq (wp_region_list ?_)
  refine wpl_val (ex_move (S.get 0 _ rfl) _) ?_
  have S := S.put (by decide : 75 < 98) (.int .i64 nn)
  refine wpl_val (ex_move (S.get 1 _ rfl) _) ?_
  have S := S.put (by decide : 76 < 98) (.slice a0 m c0)
  have zq0 : Act.eval _ (.tmp 76) = (.slice a0 m c0) := S.get 76 _ rfl
  refine wpl_call ⟨_, Try.func6, by kernel_rfl, by kernel_rfl⟩ (R := fun e V => ∃ g, e = .returned (.slice (some ⟨g, 0, none⟩) m m) ∧ OwnG KI 3 V V34.heap.size (.slice (some ⟨g, 0, none⟩) m m) ps ∧ Below V34.heap.size V34 V) ?_ ?_
  · have hc := toIntS_any a0 m c0 ps V34 hm (hR.later M) hl
    simp only [List.map_toArray, List.map_cons, List.map_nil, zq0]; exact hc
  rintro e V36 ⟨gH, rfl, OH, hbH⟩
  refine ⟨_, rfl, ?_⟩
  have B5 := B5.later hbH
  have B8 := B8.later hbH
  have M := M.trans (hbH.mono M.size)
  replace O5 := mCluster.lat O5 hbH
  replace O8x := mCluster.lat O8x hbH
  have z37 := hbH.size
  have S := S.put (by decide : 77 < 98) (.slice (some ⟨gH, 0, none⟩) m m)
  have zq0 : Act.eval _ (.tmp 75) = (.int .i64 nn) := S.get 75 _ rfl
  have zq1 : Act.eval _ (.tmp 77) = (.slice (some ⟨gH, 0, none⟩) m m) := S.get 77 _ rfl
  refine wpl_call ⟨_, Try.func7, by kernel_rfl, by kernel_rfl⟩ (R := fun e V => ∃ us, e = .returned (.tuple #[vA us, .bool (cnB nn ps)]) ∧ mCluster.own V (fun q => V36.heap.size ≤ q ∧ q < V.heap.size) us (cnX nn ps) ∧ Below V36.heap.size V36 V) ?_ ?_
  · have hc := iClusterNew_c nn (some ⟨gH, 0, none⟩) m m ps V36 hm OH.row hl
    simp only [List.map_toArray, List.map_cons, List.map_nil, zq0, zq1]; exact hc
  rintro e V38 ⟨us13, rfl, O13, hb13⟩
  refine ⟨_, rfl, ?_⟩
  have B5 := B5.later hb13
  have B8 := B8.later hb13
  have M := M.trans (hb13.mono M.size)
  replace O5 := mCluster.lat O5 hb13
  replace O8x := mCluster.lat O8x hb13
  have z39 := hb13.size
  have S := S.put (by decide : 78 < 98) (.tuple #[vA us13, .bool (cnB nn ps)])
  obtain ⟨D13, eD13⟩ : ∃ d, d = V36.heap.size := ⟨_, rfl⟩
  obtain ⟨T13, eT13⟩ : ∃ d, d = V38.heap.size := ⟨_, rfl⟩
  rw [← eD13, ← eT13] at O13
  have lenus13 : us13.length = 8 := mCluster.len O13
  have oneus13 := mCluster.one O13
  refine env_gen (C := fun a => wpList Try.prog _ _ _ a _) S ?_
  clear S; intro a S
  refine wpl_val (ex_move (S.get 78 _ rfl) _) ?_
  have S := S.put (by decide : 74 < 98) (.tuple #[vA us13, .bool (cnB nn ps)])
  refine wpl_val (ex_ext0 (S.get 74 _ rfl) _) ?_
  have S := S.put (by decide : 79 < 98) (vA us13)
  refine wpl_val (ex_ext1 (S.get 74 _ rfl) _) ?_
  have S := S.put (by decide : 80 < 98) (.bool (cnB nn ps))
  refine wpl_alloc (zs := clN) (z := .agg clN.toArray) (by kernel_rfl) rfl ?_
  intro X40 B13 l41 n42
  have p13 : ∃ p, p = V38.heap.size := ⟨_, rfl⟩
  obtain ⟨p13, ep13⟩ := p13
  rw [← ep13] at B13 ⊢
  have S := S.put (by decide : 13 < 98) (.pointer (some ⟨p13, 0, none⟩))
  refine wpl_store (off := 0) (n := 8) rfl 31 (.tmp 13) (.tmp 79) rfl (S.get 13 _ rfl) (S.get 79 _ rfl) us13 [] (clN) [] rfl oneus13 (by kernel_rfl) lenus13 (by rw [List.append_nil]; exact B13) rfl rfl ?_
  intro U43 B13 g44 _
  rw [List.nil_append, List.append_nil] at B13
  rw [put_none]
  have h45 : Below V38.heap.size V38 U43 := l41.grown g44 l41.size (fun q hq => by have := Option.some.inj hq; omega)
  have B5 := B5.later h45
  have B8 := B8.later h45
  have M := M.trans (h45.mono M.size)
  replace O5 := mCluster.lat O5 h45
  replace O8x := mCluster.lat O8x h45
  replace O13 := mCluster.lat O13 h45
  have z46 := h45.size
  refine wpl_val (ex_assign (S.get 80 _ rfl) _) ?_
  have S := S.put (by decide : 14 < 98) (.bool (cnB nn ps))
  refine wpl_nil ?_
  have S := ((((((((S.nil).add (S.get 0 _ rfl)).add (S.get 1 _ rfl)).add (S.get 5 _ rfl)).add (S.get 6 _ rfl)).add (S.get 8 _ rfl)).add (S.get 11 _ rfl)).add (S.get 13 _ rfl)).add (S.get 14 _ rfl)
  refine env_gen (C := fun a => Code.wp Try.prog _ _ a _) S ?_
  clear S; intro a S
  refine wp_seq (wp_seq (wp_region_list ?_))
  refine wpl_val (ex_agg (us := us13) (n := 8) (S.get 13 _ rfl) ⟨by kernel_rfl, by kernel_rfl⟩ lenus13 _ (box_seg B13)) ?_
  have S := S.put (by decide : 81 < 98) (.agg (List.toArray us13))
  refine wpl_val (ex_agg (us := us5) (n := 8) (S.get 5 _ rfl) ⟨by kernel_rfl, by kernel_rfl⟩ lenus5 _ (box_seg B5)) ?_
  have S := S.put (by decide : 82 < 98) (.agg (List.toArray us5))
  have zq0 : Act.eval _ (.tmp 81) = (.agg (List.toArray us13)) := S.get 81 _ rfl
  have zq1 : Act.eval _ (.tmp 82) = (.agg (List.toArray us5)) := S.get 82 _ rfl
  refine wpl_call ⟨_, Try.func8, by kernel_rfl, by kernel_rfl⟩ (R := fun e V => e = .returned (.bool true) ∧ Below U43.heap.size U43 V) ?_ ?_
  · have hc := eqCluster_c us13 us5 (cnX nn ps) U43 (mCluster.rep0 O13) (mCluster.rep0 O5) (cn_tot nn ps)
    simp only [List.map_toArray, List.map_cons, List.map_nil, zq0, zq1]; exact hc
  rintro e V48 ⟨rfl, hb47⟩
  refine ⟨_, rfl, ?_⟩
  have B5 := B5.later hb47
  have B8 := B8.later hb47
  have B13 := B13.later hb47
  have M := M.trans (hb47.mono M.size)
  replace O5 := mCluster.lat O5 hb47
  replace O8x := mCluster.lat O8x hb47
  replace O13 := mCluster.lat O13 hb47
  have z49 := hb47.size
  have S := S.put (by decide : 83 < 98) (.bool true)
  refine wpl_val (ex_not (S.get 83 _ rfl) _) ?_
  have S := S.put (by decide : 84 < 98) (.bool (!true))
  refine wpl_val (ex_move (S.get 84 _ rfl) _) ?_
  have S := S.put (by decide : 85 < 98) (.bool (!true))
  refine env_gen (C := fun a => wpList Try.prog _ _ _ a _) S ?_
  clear S; intro a S
  refine wg_yes (j := 4) (t := 85) (b := false) rfl (S.get 85 _ rfl) (by rw [S.sz]; decide) (ex_move (S.get 14 _ rfl) _) ?_
  have S := S.put (by decide : 86 < 98) (.bool (cnB nn ps))
  refine env_gen (C := fun a => wpList Try.prog _ _ _ a _) S ?_
  clear S; intro a S
  refine wg_yes (j := 4) (t := 85) (b := false) rfl (S.get 85 _ rfl) (by rw [S.sz]; decide) (ex_move (S.get 6 _ rfl) _) ?_
  have S := S.put (by decide : 87 < 98) (.bool (cnB nn ps))
  refine env_gen (C := fun a => wpList Try.prog _ _ _ a _) S ?_
  clear S; intro a S
  refine wg_yes (j := 4) (t := 85) (b := false) rfl (S.get 85 _ rfl) (by rw [S.sz]; decide) (ex_bin (u := .bool (cnB nn ps)) (v := .bool (cnB nn ps)) (S.get 86 _ rfl) (S.get 87 _ rfl) _ (neq_bool (by kernel_rfl) _ _ _)) ?_
  have S := S.put (by decide : 88 < 98) (.bool false)
  refine env_gen (C := fun a => wpList Try.prog _ _ _ a _) S ?_
  clear S; intro a S
  refine wpl_val (ex_pickF (v := .bool false) (S.get 85 _ rfl) (S.get 88 _ rfl) _) ?_
  have S := S.put (by decide : 89 < 98) (.bool false)
  refine wpl_nil ?_
  refine wp_cond_false (S.get 89 _ rfl) (wp_skip ?_)
  have S := ((((((S.nil).add (S.get 0 _ rfl)).add (S.get 1 _ rfl)).add (S.get 5 _ rfl)).add (S.get 6 _ rfl)).add (S.get 8 _ rfl)).add (S.get 11 _ rfl)
  refine env_gen (C := fun a => Code.wp Try.prog _ _ a _) S ?_
  clear S; intro a S
  refine wp_seq (wp_region_list ?_)
  refine wpl_val (ex_assign (v := (.int .i64 1)) rfl _) ?_
  have S := S.put (by decide : 12 < 98) (.int .i64 1)
  refine wpl_nil ?_
  have S := ((((((S.nil).add (S.get 0 _ rfl)).add (S.get 1 _ rfl)).add (S.get 5 _ rfl)).add (S.get 8 _ rfl)).add (S.get 11 _ rfl)).add (S.get 12 _ rfl)
  refine env_gen (C := fun a => Code.wp Try.prog _ _ a _) S ?_
  clear S; intro a S
  refine wp_seq (wp_region_list ?_)
  refine wpl_val (ex_agg (us := us8) (n := 8) (S.get 8 _ rfl) ⟨by kernel_rfl, by kernel_rfl⟩ lenus8 _ (box_seg B8)) ?_
  have S := S.put (by decide : 90 < 98) (.agg (List.toArray us8))
  refine wpl_val (ex_move (S.get 12 _ rfl) _) ?_
  have S := S.put (by decide : 91 < 98) (.int .i64 1)
  have zq0 : Act.eval _ (.tmp 90) = (.agg (List.toArray us8)) := S.get 90 _ rfl
  have zq1 : Act.eval _ (.tmp 91) = (.int .i64 1) := S.get 91 _ rfl
  refine wpl_call ⟨_, Try.func12, by kernel_rfl, by kernel_rfl⟩ (R := fun e V => e = .returned (.int .i64 mm) ∧ Below V48.heap.size V48 V) ?_ ?_
  · have hc := hdCluster_c us8 x8 V48 1 (mCluster.rep0 O8x) hby (by decide) (by omega); rw [hcx, ← hmm] at hc
    simp only [List.map_toArray, List.map_cons, List.map_nil, zq0, zq1]; exact hc
  rintro e V51 ⟨rfl, hb50⟩
  refine ⟨_, rfl, ?_⟩
  have B5 := B5.later hb50
  have B8 := B8.later hb50
  have M := M.trans (hb50.mono M.size)
  replace O5 := mCluster.lat O5 hb50
  replace O8x := mCluster.lat O8x hb50
  have z52 := hb50.size
  have S := S.put (by decide : 92 < 98) (.int .i64 mm)
  refine wpl_val (ex_assign (S.get 92 _ rfl) _) ?_
  have S := S.put (by decide : 12 < 98) (.int .i64 mm)
  refine wpl_nil ?_
  have S := ((((((S.nil).add (S.get 0 _ rfl)).add (S.get 1 _ rfl)).add (S.get 5 _ rfl)).add (S.get 8 _ rfl)).add (S.get 11 _ rfl)).add (S.get 12 _ rfl)
  refine env_gen (C := fun a => Code.wp Try.prog _ _ a _) S ?_
  clear S; intro a S
  refine wp_seq (wp_seq (wp_region_list ?_))
  refine wpl_val (ex_move (S.get 12 _ rfl) _) ?_
  have S := S.put (by decide : 93 < 98) (.int .i64 mm)
  refine wpl_val (ex_bin (u := .int .i64 mm) (v := .int .i64 0) (S.get 93 _ rfl) rfl _ (run_lss _)) ?_
  rw [decide_eq_false (by omega : ¬ mm < 0)]
  have S := S.put (by decide : 94 < 98) (.bool false)
  refine wpl_nil ?_
  refine wp_cond_false (S.get 94 _ rfl) (wp_skip ?_)
  have S := ((((((S.nil).add (S.get 0 _ rfl)).add (S.get 1 _ rfl)).add (S.get 5 _ rfl)).add (S.get 8 _ rfl)).add (S.get 11 _ rfl)).add (S.get 12 _ rfl)
  refine env_gen (C := fun a => Code.wp Try.prog _ _ a _) S ?_
  clear S; intro a S
  refine wp_seq (wp_seq (wp_region_list ?_))
  refine wpl_val (ex_move (S.get 12 _ rfl) _) ?_
  have S := S.put (by decide : 95 < 98) (.int .i64 mm)
  refine wpl_val (ex_move (S.get 11 _ rfl) _) ?_
  have S := S.put (by decide : 96 < 98) (.int .i64 mm)
  refine wpl_val (ex_bin (u := .int .i64 mm) (v := .int .i64 mm) (S.get 95 _ rfl) (S.get 96 _ rfl) _ (neq_int _ _ _)) ?_
  have S := S.put (by decide : 97 < 98) (.bool false)
  refine wpl_nil ?_
  refine wp_cond_false (S.get 97 _ rfl) (wp_skip ?_)
  have S := (((((S.nil).add (S.get 0 _ rfl)).add (S.get 1 _ rfl)).add (S.get 5 _ rfl)).add (S.get 8 _ rfl)).add (S.get 11 _ rfl)
  refine env_gen (C := fun a => Code.wp Try.prog _ _ a _) S ?_
  clear S; intro a S
  refine wp_seq (wp_region_list ?_)
  refine wpl_val (ex_assign (v := .bool true) rfl _) (wpl_nil (wp_ret ?_))
  exact (ret_b (P := Try.prog) (fn := Try.f3) (R := fun e w' => e = .returned (.bool true) ∧ Below w.heap.size w w') (S.put (by decide : 4 < 98) (.bool true)) rfl rfl ⟨rfl, M⟩)

end Go.Proofs.Ytmfbmnpfgbenmaa
