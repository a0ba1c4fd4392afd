/-
  Both Restart: what they answer.
-/
import Derived.Test.YtmfbmnpfgbenmaaZW35
namespace Go.Proofs.Ytmfbmnpfgbenmaa
open Go.ChangeShapes Go.WideShapes Go.ChangeAt Go.RowKit Go.Joins Go.Deep

section
variable {P : Program} {ops : Array Oper} {rest : List Oper} {a : Act} {w : World} {Q : Exit → Act → World → Prop} {d : Option Tmp} {ty : TypeId} {ps : String} {af : Array Edge} {gd : Option (Nat × Bool)}
theorem wpl_not {t : TypeId} {x : Operand} {b : Bool} (hx : a.eval x = .bool b) (k : wpList P ops Q rest (a.put d (.bool (!b))) w) : wpList P ops Q (⟨d, .unOp .not t x, ty, ps, af, none⟩ :: rest) a w :=
  wpl_val (v := .bool (!b)) (w' := w) (by simp [execOp, hx, Op.unary]) k
theorem ex_not {t : TypeId} {x : Operand} {b : Bool} (hx : a.eval x = .bool b) (V : World) : (execOp a.eval (⟨d, .unOp .not t x, ty, ps, af, gd⟩ : Oper)).run P V = .ok (.value (.bool (!b))) V := by simp [execOp, hx, Op.unary]
theorem ex_agg {tx : TypeId} {x : Operand} {p o : Nat} {us : List Value} {n : Nat} (hx : a.eval x = .pointer (some ⟨p, o, none⟩)) (ht : Agg P tx n) (hn : us.length = n) (V : World) (hv : Seg V p o us) : (execOp a.eval (⟨d, .load tx x, ty, ps, af, gd⟩ : Oper)).run P V = .ok (.value (.agg us.toArray)) V := by
  subst hn
  simp only [execOp, hx, Instr.loadAt, Instr.sureAddr, Sem.run_bind, Sem.run_pure, Result.andThen_ok, run_loadE V ht hv]
theorem ex_build {t : TypeId} {parts : Array (Nat × Operand)} {us : List Value} (h : P.built t (parts.map fun (i, x) => (i, a.eval x)).toList = some us.toArray) (V : World) : (execOp a.eval (⟨d, .build t parts, ty, ps, af, gd⟩ : Oper)).run P V = .ok (.value (.agg us.toArray)) V := by
  simp only [execOp, Sem.run_bind, run_build V t _ _ h, Result.andThen_ok]
  rfl
theorem wg_call {f : FuncId} {xs : Array Operand} {ats : Array TypeId} {R : Ending → World → Prop} (hw : Region.wanted (⟨d, .call { callee := .value (.func f), args := xs, argTypes := ats }, ty, ps, af, gd⟩ : Oper) (yielded ops a.tmps) = true) (hf : Fn P f) (h : Calls P f (xs.map a.eval) w R) (k : ∀ e V, R e V → ∃ v, e = .returned v ∧ wpList P ops Q rest (a.put d v) V) :
    wpList P ops Q (⟨d, .call { callee := .value (.func f), args := xs, argTypes := ats }, ty, ps, af, gd⟩ :: rest) a w := by
  unfold wpList
  rw [if_pos hw]
  left
  unfold Oper.wp
  rw [execOp_call_go, show (#[] ++ xs.map a.eval ++ #[] : Array Value) = xs.map a.eval by simp, hf.run]
  show Calls P f _ w _
  refine h.mono ?_
  intro e V hr
  obtain ⟨v, rfl, hk⟩ := k e V hr
  exact hk
theorem dr_store {S : World → Prop} {fuel : Nat} {listed : Array Bool} (i : Nat) {tx t : TypeId} {x y : Operand} {p off n : Nat} {v : Value} {vs az bs cs : List Value} (hi : ops[i]? = some (⟨none, .store tx x y, t, ps, af, none⟩ : Oper)) (hr : Region.ready .any ops listed = [i]) (hx : a.eval x = .pointer (some ⟨p, off, none⟩)) (hy : a.eval y = v) (hv : v.cells = vs.toArray) (h1 : One vs) (ht : (P.info? tx).map (·.size) = some n) (hn : vs.length = n)
    (hb : Box w p (az ++ (bs ++ cs))) (ha : az.length = off) (hl : bs.length = n) (k : ∀ V, Box V p (az ++ (vs ++ cs)) → w.grownBy V (some p) → V.heap.size = w.heap.size → S V ∧ wpAnyH P .any ops Q S fuel (listed.setIfInBounds i true) (a.put none undef) V) : wpAnyH P .any ops Q S (fuel + 1) listed a w := by
  refine wpAnyH_ready hr (by simp) (AllReadyH.cons hi (fun K hK => ?_) AllReadyH.nil)
  rw [if_pos (by simp [Region.wanted])]
  obtain ⟨t, hg⟩ := hb
  have hst : (storeVar tx ⟨p, off, none⟩ v).run P w = .ok () (w.setRow p (az ++ (vs ++ cs)).toArray) := by
    have hst := run_storeCells_at (P := P) p off t vs 0 _ w hg (by simp; omega) h1
    have e : (az ++ (bs ++ cs)).toArray.toList.take (off + 0) ++ vs ++ (az ++ (bs ++ cs)).toArray.toList.drop (off + 0 + vs.length) = az ++ (vs ++ cs) := by
      subst ha
      rw [Nat.add_zero, List.take_left, hn, ← hl, ← List.append_assoc az bs cs, ← List.length_append, List.drop_left, List.append_assoc]
    rw [e] at hst
    cases hq : P.info? tx with
    | none => simp [hq] at ht
    | some j =>
      have hz : vs.length = j.size := by simp [hq] at ht; omega
      simp [storeVar, sizeOf, typeInfo, hq, hv, hz, hst]
  unfold Oper.wp execOp
  simp only [hx, hy, Instr.storeAt, Instr.sureAddr, Sem.run_bind, Sem.run_pure, Result.andThen_ok, hst]
  obtain ⟨hS, hk⟩ := k _ ⟨t, setRow_heap w p _ _ t (0, 0) hg⟩ ⟨rfl, rfl, rfl, by simp [World.setRow], fun q _ hq => by
    show (w.heap.modify p _)[q]? = _
    rw [Array.getElem?_modify, if_neg (fun e => hq (congrArg some e.symm))]⟩ (by simp [World.setRow])
  exact hK.out _ _ hS (fun _ => hk)
end

/-- The slots of Restart. -/
structure Rs (id : Int) (p3 p4 : Nat) (a : Act) : Prop where
  s0 : a.eval (.tmp 0) = .int .i64 id
  s3 : a.eval (.tmp 3) = .pointer (some ⟨p3, 0, none⟩)
  s4 : a.eval (.tmp 4) = .pointer (some ⟨p4, 0, none⟩)
  df : a.defers = []
  sz : a.tmps.size = 20
theorem Rs.put {id : Int} {p3 p4 t : Nat} {a : Act} (S : Rs id p3 p4 a) (ht : 4 < t) (v : Value) : Rs id p3 p4 (a.put (some t) v) := ⟨(put_ne (by omega)).trans S.s0, (put_ne (by omega)).trans S.s3, (put_ne (by omega)).trans S.s4, put_df.trans S.df, put_sz.trans S.sz⟩
theorem ret_cell {P : Program} {fn : Func} {R : Ending → World → Prop} {a : Act} {W : World} {t : TypeId} {p n : Nat} {us : List Value} (hres : fn.results = #[.cell 4 t]) (hA : Agg P t n) (hn : us.length = n) (h4 : a.eval (.tmp 4) = .pointer (some ⟨p, 0, none⟩)) (hb : Box W p us) (hd : a.defers = []) (hR : R (.returned (vA us)) W) : bodyPost P fn R .ret a W := by
  subst hn
  refine bodyPost_ret (v := .agg us.toArray) ?_ hd hR
  have hl : (loadVar t ⟨p, 0, none⟩).run P W = .ok (.agg us.toArray) W := run_loadE (P := P) W hA (Box.seg (us := []) (ts := []) (by simpa using hb) rfl)
  have e3 : a.tmps.getD 4 undef = .pointer (some ⟨p, 0, none⟩) := h4
  have e4 : a.tmps[4]?.getD undef = .pointer (some ⟨p, 0, none⟩) := by simpa using e3
  simp [results, hres, e4, asAddr, hl]
/-- A server's cells, as it is started again. -/
def svC (id : Int) (us : List Value) (B : Int) : List Value := [.int .i64 id] ++ (us ++ ([.int .i64 0, .int .i64 0, .int .i64 B, .slice none 0 0] ++ ([.int .i64 0, .int .i64 0, .int .i64 0, .int .i64 0, .int .i64 0, .int .i64 0, .int .i64 0, .int .i64 0] ++ ([.int .i64 0, .int .i64 0, .int .i64 0, .int .i64 0, .int .i64 0, .int .i64 0, .int .i64 0, .int .i64 0] ++ [.int .i64 0, .int .i64 6]))))
def svN : List Value := [.int .i64 0, .int .i64 0, .int .i64 0, .int .i64 0, .int .i64 0, .slice none 0 0, .slice none 0 0, .slice none 0 0, .slice none 0 0, .int .i64 0, .int .i64 0, .int .i64 0, .slice none 0 0, .int .i64 0, .int .i64 0, .int .i64 0, .int .i64 0, .int .i64 0, .int .i64 0, .int .i64 0, .int .i64 0, .int .i64 0, .int .i64 0, .int .i64 0, .int .i64 0, .int .i64 0, .int .i64 0, .int .i64 0, .int .i64 0, .int .i64 0, .int .i64 0]
theorem eval_c (a : Act) (v : Value) : a.eval (.const v) = v := rfl
theorem svN_one : One svN := by
  intro u hu
  simp only [svN, List.mem_cons, List.not_mem_nil, or_false] at hu
  rcases hu with rfl | rfl | rfl | rfl | rfl | rfl | rfl | rfl | rfl | rfl | rfl | rfl | rfl | rfl | rfl | rfl | rfl | rfl | rfl | rfl | rfl | rfl | rfl | rfl | rfl | rfl | rfl | rfl | rfl | rfl | rfl <;> rfl
theorem svC_len {id B : Int} {us : List Value} (h : us.length = 8) : (svC id us B).length = 31 := by
  simp [svC, h]
theorem one_int (n : Nat) : One (List.replicate n (.int .i64 0)) := fun u hu => by rw [List.eq_of_mem_replicate hu]; rfl
theorem svC_one {id B : Int} {us : List Value} (h : One us) : One (svC id us B) :=
  one_app (one1 rfl) (one_app h (one_app (one_app (us := [.int .i64 0, .int .i64 0, .int .i64 B]) (one_app (us := [.int .i64 0, .int .i64 0]) (one_int 2) (one1 rfl)) (one1 rfl)) (one_app (one_int 8) (one_app (one_int 8) (one_app (us := [.int .i64 0]) (one1 rfl) (one1 rfl))))))
set_option maxRecDepth 10000 in
theorem i_built8 (id B : Int) (u0 u1 u2 u3 u4 u5 u6 u7 : Value) : Try.prog.built 57 [(0, .int .i64 id), (1, vA [u0, u1, u2, u3, u4, u5, u6, u7]), (2, .int .i64 0), (4, .int .i64 B), (9, .int .i64 6)] = some (svC id [u0, u1, u2, u3, u4, u5, u6, u7] B).toArray := by kernel_rfl
theorem i_built (id : Int) (us : List Value) (B : Int) (h : us.length = 8) : Try.prog.built 57 [(0, .int .i64 id), (1, vA us), (2, .int .i64 0), (4, .int .i64 B), (9, .int .i64 6)] = some (svC id us B).toArray :=
  match us, h with
  | [u0, u1, u2, u3, u4, u5, u6, u7], _ => i_built8 id B u0 u1 u2 u3 u4 u5 u6 u7
set_option maxRecDepth 10000 in
theorem s_built8 (id B : Int) (u0 u1 u2 u3 u4 u5 u6 u7 : Value) : Try.prog.built 57 [(0, .int .i64 id), (1, vA [u0, u1, u2, u3, u4, u5, u6, u7]), (4, .int .i64 B), (9, .int .i64 6)] = some (svC id [u0, u1, u2, u3, u4, u5, u6, u7] B).toArray := by kernel_rfl
theorem s_built (id : Int) (us : List Value) (B : Int) (h : us.length = 8) : Try.prog.built 57 [(0, .int .i64 id), (1, vA us), (4, .int .i64 B), (9, .int .i64 6)] = some (svC id us B).toArray :=
  match us, h with
  | [u0, u1, u2, u3, u4, u5, u6, u7], _ => s_built8 id B u0 u1 u2 u3 u4 u5 u6 u7
set_option maxRecDepth 10000 in
theorem n_built : Try.prog.built 57 [] = some svN.toArray := by kernel_rfl

set_option maxRecDepth 10000 in
set_option maxHeartbeats 4000000 in
theorem iRestart_walk {t0 t1 t2 t3 t4 t5 t6 t7 t8 t9 t10 t11 t12 t13 t14 t15 t16 t17 t18 tn tm : TypeId} {s0 s1 s2 s3 s4 s5 s6 s7 s8 s9 s10 s11 s12 s13 s14 s15 s16 s17 s18 : String} {f0 f1 f2 f3 f4 f5 f6 f7 f8 f9 f10 f11 : Array Edge} {r0 r1 r2 r3 : Nat} {at0 at1 at2 : Array TypeId} {fn : Func} (hN : fn.ntmps = 20) (hres : fn.results = #[.cell 4 57]) (id : Int) (k : Kv) (b1 b2 : Bool) (w : World) {R : Ending → World → Prop} {RK : World → List Value → World → Prop}
    (hI : ∀ W, Calls Try.prog 65 #[.int .i64 id] W fun e V => e = .returned (.bool b1) ∧ W = V) (hK : ∀ W, Below w.heap.size w W → Calls Try.prog 66 #[k.v] W fun e V => e = .returned (.bool b2) ∧ Below W.heap.size W V)
    (hC : b1 = true → b2 = true → ∀ W, Below w.heap.size w W → Calls Try.prog 67 #[k.v] W fun e V => ∃ us, e = .returned (vA us) ∧ us.length = 8 ∧ One us ∧ Below W.heap.size W V ∧ RK W us V)
    (hzz : (b1 && b2) = false → ∀ V, Below w.heap.size w V → R (.returned (vA svN)) V)
    (hyy : (b1 && b2) = true → ∀ W V U us p, Below w.heap.size w W → RK W us V → Below W.heap.size W V → w.heap.size ≤ p → p < W.heap.size → V.grownBy U (some p) → us.length = 8 → R (.returned (vA (svC id us k.B))) U) :
    Code.wp Try.prog ((Code.region r0 #[⟨some 3, .box 54 (.tmp 1), t0, s0, f0, none⟩, ⟨some 4, .alloc 57, t1, s1, f1, none⟩] false).seq (((Code.region r1 #[⟨some 5, .move (.tmp 0), t2, s2, f2, none⟩, ⟨some 6, .call { callee := .value (.func 65), args := #[.tmp 5], argTypes := at0 }, t3, s3, f3, none⟩, ⟨some 7, .unOp .not tn (.tmp 6), t4, s4, f4, none⟩, ⟨some 8, .move (.tmp 7), t5, s5, f5, none⟩, ⟨some 9, .load 54 (.tmp 3), t6, s6, f6, some (3, false)⟩, ⟨some 10, .call { callee := .value (.func 66), args := #[.tmp 9], argTypes := at1 }, t7, s7, f7, some (3, false)⟩, ⟨some 11, .unOp .not tm (.tmp 10), t8, s8, f8, some (3, false)⟩, ⟨some 12, .pick (.tmp 8) (.const (.bool true)) (.tmp 11), t9, s9, f9, none⟩] false).seq (Code.cond (.tmp 12) ((Code.region r2 #[⟨some 13, .build 57 #[], t10, s10, f10, none⟩, ⟨none, .store 57 (.tmp 4) (.tmp 13), t11, s11, f11, none⟩] false).seq Code.ret) Code.skip)).seq ((Code.region r3 #[⟨some 14, .move (.tmp 0), t12, s12, #[], none⟩, ⟨some 15, .load 54 (.tmp 3), t13, s13, #[], none⟩, ⟨some 16, .call { callee := .value (.func 67), args := #[.tmp 15], argTypes := at2 }, t14, s14, #[⟨1, .data⟩], none⟩, ⟨some 17, .fieldAddr 54 (.tmp 3) 2, t15, s15, #[], none⟩, ⟨some 18, .load 3 (.tmp 17), t16, s16, #[⟨3, .data⟩], none⟩, ⟨some 19, .build 57 #[(0, .tmp 14), (1, .tmp 16), (2, .const (.int .i64 0)), (4, .tmp 18), (9, .const (.int .i64 6))], t17, s17, #[⟨0, .data⟩, ⟨2, .data⟩, ⟨4, .data⟩], none⟩, ⟨none, .store 57 (.tmp 4) (.tmp 19), t18, s18, #[⟨5, .data⟩, ⟨2, .chain⟩, ⟨0, .phase⟩, ⟨1, .phase⟩, ⟨2, .phase⟩, ⟨3, .phase⟩, ⟨4, .phase⟩, ⟨5, .phase⟩], none⟩] true).seq Code.ret))) (bodyPost Try.prog fn R) (⟨#[.int .i64 id, k.v] ++ Array.replicate (fn.ntmps - (#[.int .i64 id, k.v] : Array Value).size) undef, []⟩ : Act) w := by
  have hsz : (⟨#[.int .i64 id, k.v] ++ Array.replicate (fn.ntmps - (#[.int .i64 id, k.v] : Array Value).size) undef, []⟩ : Act).tmps.size = 20 := by rw [frame2_z (by omega), hN]
  have hdf : (⟨#[.int .i64 id, k.v] ++ Array.replicate (fn.ntmps - (#[.int .i64 id, k.v] : Array Value).size) undef, []⟩ : Act).defers = [] := rfl
  have h00 : (⟨#[.int .i64 id, k.v] ++ Array.replicate (fn.ntmps - (#[.int .i64 id, k.v] : Array Value).size) undef, []⟩ : Act).eval (.tmp 0) = .int .i64 id := frame2_0
  have h01 : (⟨#[.int .i64 id, k.v] ++ Array.replicate (fn.ntmps - (#[.int .i64 id, k.v] : Array Value).size) undef, []⟩ : Act).eval (.tmp 1) = k.v := frame2_1
  generalize (⟨#[.int .i64 id, k.v] ++ Array.replicate (fn.ntmps - (#[.int .i64 id, k.v] : Array Value).size) undef, []⟩ : Act) = a at *
  refine wp_seq (wp_region_list ?_)
  refine wpl_box (us := k.cells) (by rw [h01]; rfl) ?_
  intro X1 x1 l1 n1
  refine wpl_alloc (zs := svN) (z := .agg svN.toArray) (by kernel_rfl) rfl ?_
  intro W0 B4 l2 n2
  have B3 := x1.later l2
  have M : Below w.heap.size w W0 := l1.trans (l2.mono (by omega))
  have S : Rs id w.heap.size X1.heap.size ((a.put (some 3) (.pointer (some ⟨w.heap.size, 0, none⟩))).put (some 4) (.pointer (some ⟨X1.heap.size, 0, none⟩))) := ⟨(put_ne (by omega)).trans ((put_ne (by omega)).trans h00), (put_ne (by omega)).trans (put_eq (by omega)), put_eq (by rw [put_sz]; omega), put_df.trans (put_df.trans hdf), put_sz.trans (put_sz.trans hsz)⟩
  generalize ((a.put (some 3) (.pointer (some ⟨w.heap.size, 0, none⟩))).put (some 4) (.pointer (some ⟨X1.heap.size, 0, none⟩))) = a at S ⊢
  refine wpl_nil (wp_seq (wp_seq (wp_region_list ?_)))
  have z := S.sz
  refine wpl_move ?_
  rw [S.s0]
  have S5 := S.put (by omega : 4 < 5) (.int .i64 id)
  have e5 : (a.put (some 5) (.int .i64 id)).eval (.tmp 5) = .int .i64 id := put_eq (by omega)
  refine wpl_call ⟨_, Try.func65, by kernel_rfl, by kernel_rfl⟩ (R := fun e V => e = .returned (.bool b1) ∧ W0 = V) ?_ ?_
  · have hc := hI W0
    simpa only [List.map_toArray, List.map_cons, List.map_nil, e5, eval_c] using hc
  rintro e V ⟨rfl, rfl⟩
  refine ⟨_, rfl, ?_⟩
  have S6 := S5.put (by omega : 4 < 6) (.bool b1)
  refine wpl_not (put_eq (by rw [S5.sz]; omega)) ?_
  have S7 := S6.put (by omega : 4 < 7) (.bool (!b1))
  refine wpl_move ?_
  rw [put_eq (by rw [S6.sz]; omega)]
  have S8 := S7.put (by omega : 4 < 8) (.bool (!b1))
  have e8 : ((((a.put (some 5) (.int .i64 id)).put (some 6) (.bool b1)).put (some 7) (.bool (!b1))).put (some 8) (.bool (!b1))).eval (.tmp 8) = .bool (!b1) := put_eq (by rw [S7.sz]; omega)
  generalize ((((a.put (some 5) (.int .i64 id)).put (some 6) (.bool b1)).put (some 7) (.bool (!b1))).put (some 8) (.bool (!b1))) = a at S8 e8 ⊢
  have z8 := S8.sz
  cases b1 with
  | false =>
    refine wg_no (j := 3) (t := 8) (b := false) rfl e8 (by decide) ?_
    refine wg_no (j := 3) (t := 8) (b := false) rfl ((put_ne (by omega)).trans e8) (by decide) ?_
    refine wg_no (j := 3) (t := 8) (b := false) rfl ((put_ne (by omega)).trans ((put_ne (by omega)).trans e8)) (by decide) ?_
    refine wpl_val (ex_pickT (v := .bool true) ((put_ne (by omega)).trans ((put_ne (by omega)).trans ((put_ne (by omega)).trans e8))) rfl _) (wpl_nil ?_)
    have S11 := ((S8.put (by omega : 4 < 9) undef).put (by omega : 4 < 10) undef).put (by omega : 4 < 11) undef
    have S12 := S11.put (by omega : 4 < 12) (.bool true)
    have S13 := S12.put (by omega : 4 < 13) (.agg svN.toArray)
    refine wp_cond_true (put_eq (by rw [S11.sz]; omega)) (wp_seq (wp_region_list ?_))
    refine wpl_val (ex_build (us := svN) (by simpa using n_built) _) ?_
    refine wpl_store (off := 0) (n := 31) rfl 57 (.tmp 4) (.tmp 13) rfl S13.s4 (put_eq (by rw [S12.sz]; omega)) svN [] svN [] rfl svN_one (by kernel_rfl) rfl (by rw [List.append_nil]; exact B4) rfl rfl ?_
    intro U hU hg _
    rw [put_none]
    refine wpl_nil (wp_ret ?_)
    rw [List.append_nil] at hU
    exact ret_cell hres ⟨by kernel_rfl, by kernel_rfl⟩ rfl S13.s4 hU S13.df (hzz (by simp) U (M.grown hg M.size (fun q hq => by have := Option.some.inj hq; have := l1.size; have := n1; omega)))
  | true =>
    refine wg_yes (j := 3) (t := 8) (b := false) rfl e8 (by omega) (ex_agg (us := k.cells) (n := 8) S8.s3 ⟨by kernel_rfl, by kernel_rfl⟩ rfl _ (Box.seg (us := []) (ts := []) (by rw [List.nil_append, List.append_nil]; exact B3) rfl)) ?_
    have S9 := S8.put (by omega : 4 < 9) (.agg k.cells.toArray)
    have e9 : (a.put (some 9) (.agg k.cells.toArray)).eval (.tmp 9) = k.v := put_eq (by omega)
    refine wg_call (R := fun e V => e = .returned (.bool b2) ∧ Below W0.heap.size W0 V) (wan_yes (j := 3) (t := 8) (b := false) rfl ((put_ne (by omega)).trans e8) (by rw [put_sz]; omega)) ⟨_, Try.func66, by kernel_rfl, by kernel_rfl⟩ ?_ ?_
    · have hc := hK W0 M
      simpa only [List.map_toArray, List.map_cons, List.map_nil, e9] using hc
    rintro e V ⟨rfl, hb⟩
    refine ⟨_, rfl, ?_⟩
    have M := M.trans (hb.mono M.size)
    have B3 := B3.later hb
    have B4 := B4.later hb
    have S10 := S9.put (by omega : 4 < 10) (.bool b2)
    refine wg_yes (j := 3) (t := 8) (b := false) rfl ((put_ne (by omega)).trans ((put_ne (by omega)).trans e8)) (by rw [put_sz, put_sz]; omega) (ex_not (put_eq (by rw [S9.sz]; omega)) _) ?_
    have S11 := S10.put (by omega : 4 < 11) (.bool (!b2))
    refine wpl_val (ex_pickF (v := .bool (!b2)) ((put_ne (by omega)).trans ((put_ne (by omega)).trans ((put_ne (by omega)).trans e8))) (put_eq (by rw [S10.sz]; omega)) _) (wpl_nil ?_)
    have S12 := S11.put (by omega : 4 < 12) (.bool (!b2))
    have e12 : ((((a.put (some 9) (.agg k.cells.toArray)).put (some 10) (.bool b2)).put (some 11) (.bool (!b2))).put (some 12) (.bool (!b2))).eval (.tmp 12) = .bool (!b2) := put_eq (by rw [S11.sz]; omega)
    generalize ((((a.put (some 9) (.agg k.cells.toArray)).put (some 10) (.bool b2)).put (some 11) (.bool (!b2))).put (some 12) (.bool (!b2))) = a at S12 e12 ⊢
    have z12 := S12.sz
    cases b2 with
    | false =>
      have S13 := S12.put (by omega : 4 < 13) (.agg svN.toArray)
      refine wp_cond_true e12 (wp_seq (wp_region_list ?_))
      refine wpl_val (ex_build (us := svN) (by simpa using n_built) _) ?_
      refine wpl_store (off := 0) (n := 31) rfl 57 (.tmp 4) (.tmp 13) rfl S13.s4 (put_eq (by rw [S12.sz]; omega)) svN [] svN [] rfl svN_one (by kernel_rfl) rfl (by rw [List.append_nil]; exact B4) rfl rfl ?_
      intro U hU hg _
      rw [put_none]
      refine wpl_nil (wp_ret ?_)
      rw [List.append_nil] at hU
      exact ret_cell hres ⟨by kernel_rfl, by kernel_rfl⟩ rfl S13.s4 hU S13.df (hzz (by simp) U (M.grown hg M.size (fun q hq => by have := Option.some.inj hq; have := l1.size; have := n1; omega)))
    | true =>
      refine wp_cond_false e12 (wp_skip ?_)
      clear hzz
      have hpn2 : ∀ c a d v w, (Exit.then (fun a w => Code.wp Try.prog Code.ret (bodyPost Try.prog fn R) a w) (bodyPost Try.prog fn R)) (.panic c) (Act.put a d v) w → (Exit.then (fun a w => Code.wp Try.prog Code.ret (bodyPost Try.prog fn R) a w) (bodyPost Try.prog fn R)) (.panic c) a w := fun c a d v w hq => pan_body (P := Try.prog) (fn := fn) (R := R) c a d v w hq
      have hS : (fun V => Box V w.heap.size k.cells ∧ Below w.heap.size w V) V.drew := ⟨B3.later (Below.refl _ V).drew, M.drew⟩
      have B4 := B4.later (Below.refl _ V).drew
      refine wp_seq (wp_region_held_drew (S := fun V => Box V w.heap.size k.cells ∧ Below w.heap.size w V) (by kernel_rfl) hS (fun _ => ?_))
      refine dr_val 0 14 (v := .int .i64 id) rfl (by kernel_rfl) hpn2 (fun V _ => ex_move S12.s0 V) hS ?_
      have S14 := S12.put (by omega : 4 < 14) (.int .i64 id)
      refine dr_val 1 15 (v := .agg k.cells.toArray) rfl (by kernel_rfl) hpn2 (fun V hV => ex_agg (us := k.cells) (n := 8) S14.s3 ⟨by kernel_rfl, by kernel_rfl⟩ rfl V (Box.seg (us := []) (ts := []) (by rw [List.nil_append, List.append_nil]; exact hV.1) rfl)) hS ?_
      have S15 := S14.put (by omega : 4 < 15) (.agg k.cells.toArray)
      refine dr_val 3 17 (v := .pointer (some ⟨w.heap.size, 0 + 2, none⟩)) rfl (by kernel_rfl) hpn2 (fun V _ => ex_field S15.s3 (by kernel_rfl) V) hS ?_
      have S17 := S15.put (by omega : 4 < 17) (.pointer (some ⟨w.heap.size, 0 + 2, none⟩))
      refine dr_val 4 18 (v := .int .i64 k.B) rfl (by kernel_rfl) hpn2 (fun V hV => ex_load (put_eq (by rw [S15.sz]; omega)) ⟨by kernel_rfl, by kernel_rfl⟩ V (Seg.one (Box.seg (us := [.int .i64 k.T, .int .i64 k.V]) (vs := [.int .i64 k.B]) (ts := [.int .i64 k.E, .slice k.ga k.gn k.gc, .slice k.ha k.hn k.hc, .slice k.sa k.sn k.sc, .slice k.la k.ln k.lc]) hV.1 rfl))) hS ?_
      have S18 := S17.put (by omega : 4 < 18) (.int .i64 k.B)
      have e15 : ((((a.put (some 14) (.int .i64 id)).put (some 15) (.agg k.cells.toArray)).put (some 17) (.pointer (some ⟨w.heap.size, 0 + 2, none⟩))).put (some 18) (.int .i64 k.B)).eval (.tmp 15) = k.v := (put_ne (by omega)).trans ((put_ne (by omega)).trans (put_eq (by rw [S14.sz]; omega)))
      have e14 : ((((a.put (some 14) (.int .i64 id)).put (some 15) (.agg k.cells.toArray)).put (some 17) (.pointer (some ⟨w.heap.size, 0 + 2, none⟩))).put (some 18) (.int .i64 k.B)).eval (.tmp 14) = .int .i64 id := (put_ne (by omega)).trans ((put_ne (by omega)).trans ((put_ne (by omega)).trans (put_eq (by omega))))
      have e18 : ((((a.put (some 14) (.int .i64 id)).put (some 15) (.agg k.cells.toArray)).put (some 17) (.pointer (some ⟨w.heap.size, 0 + 2, none⟩))).put (some 18) (.int .i64 k.B)).eval (.tmp 18) = .int .i64 k.B := put_eq (by rw [S17.sz]; omega)
      generalize ((((a.put (some 14) (.int .i64 id)).put (some 15) (.agg k.cells.toArray)).put (some 17) (.pointer (some ⟨w.heap.size, 0 + 2, none⟩))).put (some 18) (.int .i64 k.B)) = a at S18 e14 e15 e18 ⊢
      have z18 := S18.sz
      refine dr_call 2 16 (R := fun e U => ∃ us, e = .returned (vA us) ∧ us.length = 8 ∧ One us ∧ Below V.drew.heap.size V.drew U ∧ RK V.drew us U) rfl (by kernel_rfl) ⟨_, Try.func67, by kernel_rfl, by kernel_rfl⟩ ?_ ?_
      · have hc := hC rfl rfl V.drew M.drew
        simpa only [List.map_toArray, List.map_cons, List.map_nil, e15] using hc
      rintro e U ⟨us, rfl, hul, hu1, hbU, hRK⟩
      have M2 : Below w.heap.size w U := M.drew.trans (hbU.mono M.drew.size)
      refine ⟨_, rfl, ⟨hS.1.later hbU, M2⟩, ?_⟩
      have hS2 : (fun V => Box V w.heap.size k.cells ∧ Below w.heap.size w V) U := ⟨hS.1.later hbU, M2⟩
      have S16 := S18.put (by omega : 4 < 16) (vA us)
      have e14 : (a.put (some 16) (vA us)).eval (.tmp 14) = .int .i64 id := (put_ne (by omega)).trans e14
      have e18 : (a.put (some 16) (vA us)).eval (.tmp 18) = .int .i64 k.B := (put_ne (by omega)).trans e18
      have e16 : (a.put (some 16) (vA us)).eval (.tmp 16) = vA us := put_eq (by omega)
      refine dr_val 5 19 (v := .agg (svC id us k.B).toArray) rfl (by kernel_rfl) hpn2 (fun V _ => ex_build (us := svC id us k.B) ?_ V) hS2 ?_
      · simp only [List.map_toArray, List.map_cons, List.map_nil, e14, e16, e18, eval_c]
        exact i_built id us k.B hul
      have S19 := S16.put (by omega : 4 < 19) (.agg (svC id us k.B).toArray)
      refine dr_store 6 (off := 0) (n := 31) (vs := svC id us k.B) (az := []) (bs := svN) (cs := []) rfl (by kernel_rfl) S19.s4 (put_eq (by rw [S16.sz]; omega)) rfl (svC_one hu1) (by kernel_rfl) (svC_len hul) (by rw [List.append_nil]; exact B4.later hbU) rfl rfl ?_
      intro U2 hU2 hg hz
      rw [List.append_nil] at hU2
      have hX : X1.heap.size = w.heap.size + 1 := n1
      refine ⟨⟨hS2.1.other hg (by omega), M2.grown hg M2.size (fun q hq => by have := Option.some.inj hq; omega)⟩, ?_⟩
      refine ⟨by kernel_rfl, ?_⟩
      refine wp_ret ?_
      exact ret_cell hres ⟨by kernel_rfl, by kernel_rfl⟩ (svC_len hul) S19.s4 hU2 S19.df (hyy rfl V.drew U U2 us X1.heap.size M.drew hRK hbU (by omega) B4.lt hg hul)
set_option maxRecDepth 10000 in
set_option maxHeartbeats 4000000 in
theorem sRestart_walk {t0 t1 t2 t3 t4 t5 t6 t7 t8 t9 t10 t11 t12 t13 t14 t15 t16 t17 t18 tn tm : TypeId} {s0 s1 s2 s3 s4 s5 s6 s7 s8 s9 s10 s11 s12 s13 s14 s15 s16 s17 s18 : String} {f0 f1 f2 f3 f4 f5 f6 f7 f8 f9 f10 f11 : Array Edge} {r0 r1 r2 r3 : Nat} {at0 at1 at2 : Array TypeId} {fn : Func} (hN : fn.ntmps = 20) (hres : fn.results = #[.cell 4 57]) (id : Int) (k : Kv) (b1 b2 : Bool) (w : World) {R : Ending → World → Prop} {RK : World → List Value → World → Prop}
    (hI : ∀ W, Calls Try.prog 17 #[.int .i64 id, .int .i64 1, .int .i64 7] W fun e V => e = .returned (.bool b1) ∧ W = V) (hK : ∀ W, Below w.heap.size w W → Calls Try.prog 59 #[k.v] W fun e V => e = .returned (.bool b2) ∧ Below W.heap.size W V)
    (hC : b1 = true → b2 = true → ∀ W, Below w.heap.size w W → Calls Try.prog 60 #[k.v] W fun e V => ∃ us, e = .returned (vA us) ∧ us.length = 8 ∧ One us ∧ Below W.heap.size W V ∧ RK W us V)
    (hzz : (b1 && b2) = false → ∀ V, Below w.heap.size w V → R (.returned (vA svN)) V)
    (hyy : (b1 && b2) = true → ∀ W V U us p, Below w.heap.size w W → RK W us V → Below W.heap.size W V → w.heap.size ≤ p → p < W.heap.size → V.grownBy U (some p) → us.length = 8 → R (.returned (vA (svC id us k.B))) U) :
    Code.wp Try.prog ((Code.region r0 #[⟨some 3, .box 54 (.tmp 1), t0, s0, f0, none⟩, ⟨some 4, .alloc 57, t1, s1, f1, none⟩] false).seq (((Code.region r1 #[⟨some 5, .move (.tmp 0), t2, s2, f2, none⟩, ⟨some 6, .call { callee := .value (.func 17), args := #[.tmp 5, .const (.int .i64 1), .const (.int .i64 7)], argTypes := at0 }, t3, s3, f3, none⟩, ⟨some 7, .unOp .not tn (.tmp 6), t4, s4, f4, none⟩, ⟨some 8, .move (.tmp 7), t5, s5, f5, none⟩, ⟨some 9, .load 54 (.tmp 3), t6, s6, f6, some (3, false)⟩, ⟨some 10, .call { callee := .value (.func 59), args := #[.tmp 9], argTypes := at1 }, t7, s7, f7, some (3, false)⟩, ⟨some 11, .unOp .not tm (.tmp 10), t8, s8, f8, some (3, false)⟩, ⟨some 12, .pick (.tmp 8) (.const (.bool true)) (.tmp 11), t9, s9, f9, none⟩] false).seq (Code.cond (.tmp 12) ((Code.region r2 #[⟨some 13, .build 57 #[], t10, s10, f10, none⟩, ⟨none, .store 57 (.tmp 4) (.tmp 13), t11, s11, f11, none⟩] false).seq Code.ret) Code.skip)).seq ((Code.region r3 #[⟨some 14, .move (.tmp 0), t12, s12, #[], none⟩, ⟨some 15, .load 54 (.tmp 3), t13, s13, #[], none⟩, ⟨some 16, .call { callee := .value (.func 60), args := #[.tmp 15], argTypes := at2 }, t14, s14, #[⟨1, .data⟩], none⟩, ⟨some 17, .fieldAddr 54 (.tmp 3) 2, t15, s15, #[], none⟩, ⟨some 18, .load 3 (.tmp 17), t16, s16, #[⟨3, .data⟩], none⟩, ⟨some 19, .build 57 #[(0, .tmp 14), (1, .tmp 16), (4, .tmp 18), (9, .const (.int .i64 6))], t17, s17, #[⟨0, .data⟩, ⟨2, .data⟩, ⟨4, .data⟩], none⟩, ⟨none, .store 57 (.tmp 4) (.tmp 19), t18, s18, #[⟨5, .data⟩, ⟨2, .chain⟩, ⟨0, .phase⟩, ⟨1, .phase⟩, ⟨2, .phase⟩, ⟨3, .phase⟩, ⟨4, .phase⟩, ⟨5, .phase⟩], none⟩] true).seq Code.ret))) (bodyPost Try.prog fn R) (⟨#[.int .i64 id, k.v] ++ Array.replicate (fn.ntmps - (#[.int .i64 id, k.v] : Array Value).size) undef, []⟩ : Act) w := by
  have hsz : (⟨#[.int .i64 id, k.v] ++ Array.replicate (fn.ntmps - (#[.int .i64 id, k.v] : Array Value).size) undef, []⟩ : Act).tmps.size = 20 := by rw [frame2_z (by omega), hN]
  have hdf : (⟨#[.int .i64 id, k.v] ++ Array.replicate (fn.ntmps - (#[.int .i64 id, k.v] : Array Value).size) undef, []⟩ : Act).defers = [] := rfl
  have h00 : (⟨#[.int .i64 id, k.v] ++ Array.replicate (fn.ntmps - (#[.int .i64 id, k.v] : Array Value).size) undef, []⟩ : Act).eval (.tmp 0) = .int .i64 id := frame2_0
  have h01 : (⟨#[.int .i64 id, k.v] ++ Array.replicate (fn.ntmps - (#[.int .i64 id, k.v] : Array Value).size) undef, []⟩ : Act).eval (.tmp 1) = k.v := frame2_1
  generalize (⟨#[.int .i64 id, k.v] ++ Array.replicate (fn.ntmps - (#[.int .i64 id, k.v] : Array Value).size) undef, []⟩ : Act) = a at *
  refine wp_seq (wp_region_list ?_)
  refine wpl_box (us := k.cells) (by rw [h01]; rfl) ?_
  intro X1 x1 l1 n1
  refine wpl_alloc (zs := svN) (z := .agg svN.toArray) (by kernel_rfl) rfl ?_
  intro W0 B4 l2 n2
  have B3 := x1.later l2
  have M : Below w.heap.size w W0 := l1.trans (l2.mono (by omega))
  have S : Rs id w.heap.size X1.heap.size ((a.put (some 3) (.pointer (some ⟨w.heap.size, 0, none⟩))).put (some 4) (.pointer (some ⟨X1.heap.size, 0, none⟩))) := ⟨(put_ne (by omega)).trans ((put_ne (by omega)).trans h00), (put_ne (by omega)).trans (put_eq (by omega)), put_eq (by rw [put_sz]; omega), put_df.trans (put_df.trans hdf), put_sz.trans (put_sz.trans hsz)⟩
  generalize ((a.put (some 3) (.pointer (some ⟨w.heap.size, 0, none⟩))).put (some 4) (.pointer (some ⟨X1.heap.size, 0, none⟩))) = a at S ⊢
  refine wpl_nil (wp_seq (wp_seq (wp_region_list ?_)))
  have z := S.sz
  refine wpl_move ?_
  rw [S.s0]
  have S5 := S.put (by omega : 4 < 5) (.int .i64 id)
  have e5 : (a.put (some 5) (.int .i64 id)).eval (.tmp 5) = .int .i64 id := put_eq (by omega)
  refine wpl_call ⟨_, Try.func17, by kernel_rfl, by kernel_rfl⟩ (R := fun e V => e = .returned (.bool b1) ∧ W0 = V) ?_ ?_
  · have hc := hI W0
    simpa only [List.map_toArray, List.map_cons, List.map_nil, e5, eval_c] using hc
  rintro e V ⟨rfl, rfl⟩
  refine ⟨_, rfl, ?_⟩
  have S6 := S5.put (by omega : 4 < 6) (.bool b1)
  refine wpl_not (put_eq (by rw [S5.sz]; omega)) ?_
  have S7 := S6.put (by omega : 4 < 7) (.bool (!b1))
  refine wpl_move ?_
  rw [put_eq (by rw [S6.sz]; omega)]
  have S8 := S7.put (by omega : 4 < 8) (.bool (!b1))
  have e8 : ((((a.put (some 5) (.int .i64 id)).put (some 6) (.bool b1)).put (some 7) (.bool (!b1))).put (some 8) (.bool (!b1))).eval (.tmp 8) = .bool (!b1) := put_eq (by rw [S7.sz]; omega)
  generalize ((((a.put (some 5) (.int .i64 id)).put (some 6) (.bool b1)).put (some 7) (.bool (!b1))).put (some 8) (.bool (!b1))) = a at S8 e8 ⊢
  have z8 := S8.sz
  cases b1 with
  | false =>
    refine wg_no (j := 3) (t := 8) (b := false) rfl e8 (by decide) ?_
    refine wg_no (j := 3) (t := 8) (b := false) rfl ((put_ne (by omega)).trans e8) (by decide) ?_
    refine wg_no (j := 3) (t := 8) (b := false) rfl ((put_ne (by omega)).trans ((put_ne (by omega)).trans e8)) (by decide) ?_
    refine wpl_val (ex_pickT (v := .bool true) ((put_ne (by omega)).trans ((put_ne (by omega)).trans ((put_ne (by omega)).trans e8))) rfl _) (wpl_nil ?_)
    have S11 := ((S8.put (by omega : 4 < 9) undef).put (by omega : 4 < 10) undef).put (by omega : 4 < 11) undef
    have S12 := S11.put (by omega : 4 < 12) (.bool true)
    have S13 := S12.put (by omega : 4 < 13) (.agg svN.toArray)
    refine wp_cond_true (put_eq (by rw [S11.sz]; omega)) (wp_seq (wp_region_list ?_))
    refine wpl_val (ex_build (us := svN) (by simpa using n_built) _) ?_
    refine wpl_store (off := 0) (n := 31) rfl 57 (.tmp 4) (.tmp 13) rfl S13.s4 (put_eq (by rw [S12.sz]; omega)) svN [] svN [] rfl svN_one (by kernel_rfl) rfl (by rw [List.append_nil]; exact B4) rfl rfl ?_
    intro U hU hg _
    rw [put_none]
    refine wpl_nil (wp_ret ?_)
    rw [List.append_nil] at hU
    exact ret_cell hres ⟨by kernel_rfl, by kernel_rfl⟩ rfl S13.s4 hU S13.df (hzz (by simp) U (M.grown hg M.size (fun q hq => by have := Option.some.inj hq; have := l1.size; have := n1; omega)))
  | true =>
    refine wg_yes (j := 3) (t := 8) (b := false) rfl e8 (by omega) (ex_agg (us := k.cells) (n := 8) S8.s3 ⟨by kernel_rfl, by kernel_rfl⟩ rfl _ (Box.seg (us := []) (ts := []) (by rw [List.nil_append, List.append_nil]; exact B3) rfl)) ?_
    have S9 := S8.put (by omega : 4 < 9) (.agg k.cells.toArray)
    have e9 : (a.put (some 9) (.agg k.cells.toArray)).eval (.tmp 9) = k.v := put_eq (by omega)
    refine wg_call (R := fun e V => e = .returned (.bool b2) ∧ Below W0.heap.size W0 V) (wan_yes (j := 3) (t := 8) (b := false) rfl ((put_ne (by omega)).trans e8) (by rw [put_sz]; omega)) ⟨_, Try.func59, by kernel_rfl, by kernel_rfl⟩ ?_ ?_
    · have hc := hK W0 M
      simpa only [List.map_toArray, List.map_cons, List.map_nil, e9] using hc
    rintro e V ⟨rfl, hb⟩
    refine ⟨_, rfl, ?_⟩
    have M := M.trans (hb.mono M.size)
    have B3 := B3.later hb
    have B4 := B4.later hb
    have S10 := S9.put (by omega : 4 < 10) (.bool b2)
    refine wg_yes (j := 3) (t := 8) (b := false) rfl ((put_ne (by omega)).trans ((put_ne (by omega)).trans e8)) (by rw [put_sz, put_sz]; omega) (ex_not (put_eq (by rw [S9.sz]; omega)) _) ?_
    have S11 := S10.put (by omega : 4 < 11) (.bool (!b2))
    refine wpl_val (ex_pickF (v := .bool (!b2)) ((put_ne (by omega)).trans ((put_ne (by omega)).trans ((put_ne (by omega)).trans e8))) (put_eq (by rw [S10.sz]; omega)) _) (wpl_nil ?_)
    have S12 := S11.put (by omega : 4 < 12) (.bool (!b2))
    have e12 : ((((a.put (some 9) (.agg k.cells.toArray)).put (some 10) (.bool b2)).put (some 11) (.bool (!b2))).put (some 12) (.bool (!b2))).eval (.tmp 12) = .bool (!b2) := put_eq (by rw [S11.sz]; omega)
    generalize ((((a.put (some 9) (.agg k.cells.toArray)).put (some 10) (.bool b2)).put (some 11) (.bool (!b2))).put (some 12) (.bool (!b2))) = a at S12 e12 ⊢
    have z12 := S12.sz
    cases b2 with
    | false =>
      have S13 := S12.put (by omega : 4 < 13) (.agg svN.toArray)
      refine wp_cond_true e12 (wp_seq (wp_region_list ?_))
      refine wpl_val (ex_build (us := svN) (by simpa using n_built) _) ?_
      refine wpl_store (off := 0) (n := 31) rfl 57 (.tmp 4) (.tmp 13) rfl S13.s4 (put_eq (by rw [S12.sz]; omega)) svN [] svN [] rfl svN_one (by kernel_rfl) rfl (by rw [List.append_nil]; exact B4) rfl rfl ?_
      intro U hU hg _
      rw [put_none]
      refine wpl_nil (wp_ret ?_)
      rw [List.append_nil] at hU
      exact ret_cell hres ⟨by kernel_rfl, by kernel_rfl⟩ rfl S13.s4 hU S13.df (hzz (by simp) U (M.grown hg M.size (fun q hq => by have := Option.some.inj hq; have := l1.size; have := n1; omega)))
    | true =>
      refine wp_cond_false e12 (wp_skip ?_)
      clear hzz
      have hpn2 : ∀ c a d v w, (Exit.then (fun a w => Code.wp Try.prog Code.ret (bodyPost Try.prog fn R) a w) (bodyPost Try.prog fn R)) (.panic c) (Act.put a d v) w → (Exit.then (fun a w => Code.wp Try.prog Code.ret (bodyPost Try.prog fn R) a w) (bodyPost Try.prog fn R)) (.panic c) a w := fun c a d v w hq => pan_body (P := Try.prog) (fn := fn) (R := R) c a d v w hq
      have hS : (fun V => Box V w.heap.size k.cells ∧ Below w.heap.size w V) V.drew := ⟨B3.later (Below.refl _ V).drew, M.drew⟩
      have B4 := B4.later (Below.refl _ V).drew
      refine wp_seq (wp_region_held_drew (S := fun V => Box V w.heap.size k.cells ∧ Below w.heap.size w V) (by kernel_rfl) hS (fun _ => ?_))
      refine dr_val 0 14 (v := .int .i64 id) rfl (by kernel_rfl) hpn2 (fun V _ => ex_move S12.s0 V) hS ?_
      have S14 := S12.put (by omega : 4 < 14) (.int .i64 id)
      refine dr_val 1 15 (v := .agg k.cells.toArray) rfl (by kernel_rfl) hpn2 (fun V hV => ex_agg (us := k.cells) (n := 8) S14.s3 ⟨by kernel_rfl, by kernel_rfl⟩ rfl V (Box.seg (us := []) (ts := []) (by rw [List.nil_append, List.append_nil]; exact hV.1) rfl)) hS ?_
      have S15 := S14.put (by omega : 4 < 15) (.agg k.cells.toArray)
      refine dr_val 3 17 (v := .pointer (some ⟨w.heap.size, 0 + 2, none⟩)) rfl (by kernel_rfl) hpn2 (fun V _ => ex_field S15.s3 (by kernel_rfl) V) hS ?_
      have S17 := S15.put (by omega : 4 < 17) (.pointer (some ⟨w.heap.size, 0 + 2, none⟩))
      refine dr_val 4 18 (v := .int .i64 k.B) rfl (by kernel_rfl) hpn2 (fun V hV => ex_load (put_eq (by rw [S15.sz]; omega)) ⟨by kernel_rfl, by kernel_rfl⟩ V (Seg.one (Box.seg (us := [.int .i64 k.T, .int .i64 k.V]) (vs := [.int .i64 k.B]) (ts := [.int .i64 k.E, .slice k.ga k.gn k.gc, .slice k.ha k.hn k.hc, .slice k.sa k.sn k.sc, .slice k.la k.ln k.lc]) hV.1 rfl))) hS ?_
      have S18 := S17.put (by omega : 4 < 18) (.int .i64 k.B)
      have e15 : ((((a.put (some 14) (.int .i64 id)).put (some 15) (.agg k.cells.toArray)).put (some 17) (.pointer (some ⟨w.heap.size, 0 + 2, none⟩))).put (some 18) (.int .i64 k.B)).eval (.tmp 15) = k.v := (put_ne (by omega)).trans ((put_ne (by omega)).trans (put_eq (by rw [S14.sz]; omega)))
      have e14 : ((((a.put (some 14) (.int .i64 id)).put (some 15) (.agg k.cells.toArray)).put (some 17) (.pointer (some ⟨w.heap.size, 0 + 2, none⟩))).put (some 18) (.int .i64 k.B)).eval (.tmp 14) = .int .i64 id := (put_ne (by omega)).trans ((put_ne (by omega)).trans ((put_ne (by omega)).trans (put_eq (by omega))))
      have e18 : ((((a.put (some 14) (.int .i64 id)).put (some 15) (.agg k.cells.toArray)).put (some 17) (.pointer (some ⟨w.heap.size, 0 + 2, none⟩))).put (some 18) (.int .i64 k.B)).eval (.tmp 18) = .int .i64 k.B := put_eq (by rw [S17.sz]; omega)
      generalize ((((a.put (some 14) (.int .i64 id)).put (some 15) (.agg k.cells.toArray)).put (some 17) (.pointer (some ⟨w.heap.size, 0 + 2, none⟩))).put (some 18) (.int .i64 k.B)) = a at S18 e14 e15 e18 ⊢
      have z18 := S18.sz
      refine dr_call 2 16 (R := fun e U => ∃ us, e = .returned (vA us) ∧ us.length = 8 ∧ One us ∧ Below V.drew.heap.size V.drew U ∧ RK V.drew us U) rfl (by kernel_rfl) ⟨_, Try.func60, by kernel_rfl, by kernel_rfl⟩ ?_ ?_
      · have hc := hC rfl rfl V.drew M.drew
        simpa only [List.map_toArray, List.map_cons, List.map_nil, e15] using hc
      rintro e U ⟨us, rfl, hul, hu1, hbU, hRK⟩
      have M2 : Below w.heap.size w U := M.drew.trans (hbU.mono M.drew.size)
      refine ⟨_, rfl, ⟨hS.1.later hbU, M2⟩, ?_⟩
      have hS2 : (fun V => Box V w.heap.size k.cells ∧ Below w.heap.size w V) U := ⟨hS.1.later hbU, M2⟩
      have S16 := S18.put (by omega : 4 < 16) (vA us)
      have e14 : (a.put (some 16) (vA us)).eval (.tmp 14) = .int .i64 id := (put_ne (by omega)).trans e14
      have e18 : (a.put (some 16) (vA us)).eval (.tmp 18) = .int .i64 k.B := (put_ne (by omega)).trans e18
      have e16 : (a.put (some 16) (vA us)).eval (.tmp 16) = vA us := put_eq (by omega)
      refine dr_val 5 19 (v := .agg (svC id us k.B).toArray) rfl (by kernel_rfl) hpn2 (fun V _ => ex_build (us := svC id us k.B) ?_ V) hS2 ?_
      · simp only [List.map_toArray, List.map_cons, List.map_nil, e14, e16, e18, eval_c]
        exact s_built id us k.B hul
      have S19 := S16.put (by omega : 4 < 19) (.agg (svC id us k.B).toArray)
      refine dr_store 6 (off := 0) (n := 31) (vs := svC id us k.B) (az := []) (bs := svN) (cs := []) rfl (by kernel_rfl) S19.s4 (put_eq (by rw [S16.sz]; omega)) rfl (svC_one hu1) (by kernel_rfl) (svC_len hul) (by rw [List.append_nil]; exact B4.later hbU) rfl rfl ?_
      intro U2 hU2 hg hz
      rw [List.append_nil] at hU2
      have hX : X1.heap.size = w.heap.size + 1 := n1
      refine ⟨⟨hS2.1.other hg (by omega), M2.grown hg M2.size (fun q hq => by have := Option.some.inj hq; omega)⟩, ?_⟩
      refine ⟨by kernel_rfl, ?_⟩
      refine wp_ret ?_
      exact ret_cell hres ⟨by kernel_rfl, by kernel_rfl⟩ (svC_len hul) S19.s4 hU2 S19.df (hyy rfl V.drew U U2 us X1.heap.size M.drew hRK hbU (by omega) B4.lt hg hul)

end Go.Proofs.Ytmfbmnpfgbenmaa
