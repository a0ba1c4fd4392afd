/-
  Frames by their slots, and single operations, for functions over a cluster.
-/
import Derived.Test.YtjiplphfpkhmpaaGreatEC
import Derived.Test.YtjiplphfpkhmpaaGreatED
import Derived.LoopN
namespace Go.Proofs.YtjiplphfpkhmpaaGreat
open Go.RowKit

/-- What stands in the slots, by number. -/
structure Env (N : Nat) (E : Nat → Option Value) (a : Act) : Prop where
  get : ∀ t v, E t = some v → a.eval (.tmp t) = v
  df : a.defers = []
  sz : a.tmps.size = N
def upd (E : Nat → Option Value) (t : Nat) (v : Value) : Nat → Option Value := fun u => if u = t then some v else E u
theorem Env.put {N t : Nat} {E : Nat → Option Value} {a : Act} (S : Env N E a) (ht : t < N) (v : Value) : Env N (upd E t v) (a.put (some t) v) := by
  refine ⟨fun u x h => ?_, put_df.trans S.df, put_sz.trans S.sz⟩
  unfold upd at h
  by_cases e : u = t
  · rw [if_pos e] at h
    subst e
    obtain rfl := Option.some.inj h
    exact put_eq (by rw [S.sz]; exact ht)
  · rw [if_neg e] at h
    exact (put_ne e).trans (S.get u x h)
theorem Env.nil {N : Nat} {E : Nat → Option Value} {a : Act} (S : Env N E a) : Env N (fun _ => none) a := ⟨fun _ _ h => (by cases h), S.df, S.sz⟩
theorem Env.add {N t : Nat} {E : Nat → Option Value} {a : Act} {v : Value} (S : Env N E a) (h : a.eval (.tmp t) = v) : Env N (upd E t v) a := by
  refine ⟨fun u x hx => ?_, S.df, S.sz⟩
  unfold upd at hx
  by_cases e : u = t
  · rw [if_pos e] at hx
    subst e
    rw [← Option.some.inj hx]
    exact h
  · rw [if_neg e] at hx
    exact S.get u x hx
theorem env_gen {N : Nat} {E : Nat → Option Value} {a : Act} {C : Act → Prop} (S : Env N E a) (h : ∀ a, Env N E a → C a) : C a := h a S
theorem env1 {P : Program} {fn : Func} {C : Code} {Q : Exit → Act → World → Prop} {w : World} {N : Nat} {x : Value} (hN : fn.ntmps = N) (h2 : 1 ≤ N) (h : ∀ a, Env N (upd (fun _ => none) 0 x) a → Code.wp P C Q a w) : Code.wp P C Q ⟨#[x] ++ Array.replicate (fn.ntmps - (#[x] : Array Value).size) undef, []⟩ w := by
  have hz : (#[x] ++ Array.replicate (fn.ntmps - (#[x] : Array Value).size) undef : Array Value).size = N := by
    rw [Array.size_append, Array.size_replicate]
    show 1 + (fn.ntmps - 1) = N
    omega
  refine h _ ⟨fun t v ht => ?_, rfl, hz⟩
  unfold upd at ht
  by_cases e : t = 0
  · rw [if_pos e] at ht
    subst e
    obtain rfl := Option.some.inj ht
    exact frame_0
  · rw [if_neg e] at ht
    cases ht
theorem env2 {P : Program} {fn : Func} {C : Code} {Q : Exit → Act → World → Prop} {w : World} {N : Nat} {x y : Value} (hN : fn.ntmps = N) (h2 : 2 ≤ N) (h : ∀ a, Env N (upd (upd (fun _ => none) 0 x) 1 y) a → Code.wp P C Q a w) : Code.wp P C Q ⟨#[x, y] ++ Array.replicate (fn.ntmps - (#[x, y] : Array Value).size) undef, []⟩ w := by
  refine h _ ⟨fun t v ht => ?_, rfl, by rw [frame2_z (by omega), hN]⟩
  unfold upd at ht
  by_cases e : t = 1
  · rw [if_pos e] at ht
    subst e
    obtain rfl := Option.some.inj ht
    exact frame2_1
  · rw [if_neg e] at ht
    by_cases e : t = 0
    · rw [if_pos e] at ht
      subst e
      obtain rfl := Option.some.inj ht
      exact frame2_0
    · rw [if_neg e] at ht
      cases ht
theorem box_seg {W : World} {p : Nat} {us : List Value} (h : Box W p us) : Seg W p 0 us := Box.seg (us := []) (ts := []) (by rw [List.nil_append, List.append_nil]; exact h) rfl
theorem put_none {a : Act} {v : Value} : a.put none v = a := rfl
theorem ret_at {P : Program} {fn : Func} {R : Ending → World → Prop} {a : Act} {W : World} {N k : Nat} {E : Nat → Option Value} {v : Value} (S : Env N E a) (hres : fn.results = #[.tmp k]) (h : E k = some v) (hR : R (.returned v) W) : bodyPost P fn R .ret a W := by
  refine bodyPost_ret (v := v) ?_ S.df hR
  have e4 : a.tmps.getD k undef = v := S.get k _ h
  have e5 : a.tmps[k]?.getD undef = v := by simpa using e4
  simp [results, hres, e5]

section
variable {P : Program} {a : Act} {d : Option Tmp} {ty : TypeId} {ps : String} {af : Array Edge} {gd : Option (Nat × Bool)}
theorem ex_not {t : TypeId} {x : Operand} {b : Bool} (hx : a.eval x = .bool b) (V : World) : (execOp a.eval (⟨d, .unOp .not t x, ty, ps, af, gd⟩ : Oper)).run P V = .ok (.value (.bool (!b))) V := by simp [execOp, hx, Op.unary]
theorem ex_agg {tx : TypeId} {x : Operand} {p o : Nat} {us : List Value} {n : Nat} (hx : a.eval x = .pointer (some ⟨p, o, none⟩)) (ht : Agg P tx n) (hn : us.length = n) (V : World) (hv : Seg V p o us) : (execOp a.eval (⟨d, .load tx x, ty, ps, af, gd⟩ : Oper)).run P V = .ok (.value (.agg us.toArray)) V := by
  subst hn
  simp only [execOp, hx, Instr.loadAt, Instr.sureAddr, Sem.run_bind, Sem.run_pure, Result.andThen_ok, run_loadE V ht hv]
theorem ex_len {x : Operand} {t : TypeId} {o : Option Addr} {n c : Nat} (ht : (match P.underlying t with | some (.slice _) => true | _ => false) = true) (hx : a.eval x = .slice o n c) (W : World) :
    (execOp a.eval (⟨d, .call { callee := .builtin .len, args := #[x], argTypes := #[t] }, ty, ps, af, gd⟩ : Oper)).run P W = .ok (.value (.int .i64 n)) W := by
  cases hu : P.underlying t with
  | none => rw [hu] at ht; cases ht
  | some e =>
    rw [hu] at ht
    cases e <;> first | (simp at ht; done) | simp [execOp, resolve, invoke, builtin, Builtin.len_, Sem.run_bind, run_underlying hu, hx, goInt]
theorem ex_nil {x : Operand} {p : Addr} (hx : a.eval x = .pointer (some p)) (V : World) : (execOp a.eval (⟨d, .nilCheck x, ty, ps, af, gd⟩ : Oper)).run P V = .ok (.value (.pointer (some p))) V := by simp [execOp, hx]
theorem ex_ext0 {x : Operand} {u v : Value} (hx : a.eval x = .tuple #[u, v]) (W : World) : (execOp a.eval (⟨d, .extract x 0, ty, ps, af, gd⟩ : Oper)).run P W = .ok (.value u) W := by
  simp [execOp, Instr.extract, hx]
theorem ex_ext1 {x : Operand} {u v : Value} (hx : a.eval x = .tuple #[u, v]) (W : World) : (execOp a.eval (⟨d, .extract x 1, ty, ps, af, gd⟩ : Oper)).run P W = .ok (.value v) W := by
  simp [execOp, Instr.extract, hx]
/-- A place in an array. -/
theorem ex_aidx {x z : Operand} {t e : TypeId} {m p o i k : Nat} (ht : P.underlying t = some (.array m e)) (hk : (P.info? e).map (·.size) = some k) (hx : a.eval x = .pointer (some ⟨p, o, none⟩)) (hz : a.eval z = .int .i64 i) (hi : i < m) (V : World) :
    (execOp a.eval (⟨d, .indexAddr t x z, ty, ps, af, gd⟩ : Oper)).run P V = .ok (.value (.pointer (some ⟨p, o + i * k, none⟩))) V := by
  cases hq : P.info? e with
  | none => simp [hq] at hk
  | some j =>
    have hz' : j.size = k := by simpa [hq] using hk
    simp [execOp, Instr.indexAt, asIntOf, Sem.run_bind, run_underlying ht, hx, hz, sizeOf, typeInfo, hq, hz', add_E, hi, Instr.sureAddr]
theorem run_eqb {ti : TypeId} {x y : Operand} {m n : Int} (w : World) : (do eqGuard .neq ti x y (.int .i64 m) (.int .i64 n); binOp .neq ti (.int .i64 m) (.int .i64 n) : Sem Value).run P w = .ok (.bool (m != n)) w := by
  simp [eqGuard, binOp, Op.intCmp]
theorem ev_const {v : Value} : a.eval (.const v) = v := rfl
end

/-- All of the first n. -/
def allN (g : Nat → Bool) : Nat → Bool
  | 0 => true
  | n + 1 => allN g n && g n
theorem allN_step {g : Nat → Bool} {i : Nat} (h : allN g i = true) (hi : g i = true) : allN g (i + 1) = true := by
  show (allN g i && g i) = true
  rw [h, hi]
  rfl
theorem allN_bad {g : Nat → Bool} {i : Nat} (h : g i = false) : ∀ {n : Nat}, i < n → allN g n = false
  | n + 1, hn => by
    show (allN g n && g n) = false
    by_cases e : i = n
    · rw [← e, h, Bool.and_false]
    · rw [allN_bad h (by omega), Bool.false_and]
theorem allN_get {g : Nat → Bool} {i : Nat} : ∀ {n : Nat}, allN g n = true → i < n → g i = true
  | n + 1, h, hn => by
    have h2 : (allN g n && g n) = true := h
    rw [Bool.and_eq_true] at h2
    by_cases e : i = n
    · rw [e]; exact h2.2
    · exact allN_get h2.1 (by omega)
theorem allN_of {g : Nat → Bool} : ∀ {n : Nat}, (∀ i, i < n → g i = true) → allN g n = true
  | 0, _ => rfl
  | n + 1, h => allN_step (allN_of (fun i hi => h i (by omega))) (h n (by omega))
theorem allN_congr {g f : Nat → Bool} : ∀ {n : Nat}, (∀ i, i < n → g i = f i) → allN g n = allN f n
  | 0, _ => rfl
  | n + 1, h => by
    show (allN g n && g n) = (allN f n && f n)
    rw [allN_congr (fun i hi => h i (by omega)), h n (by omega)]

/-! what a cluster and a replica are made of -/
abbrev CluA : Type := (((((((Unit × List RepA) × ((Unit × List Int) × List Int)) × List (((((((((((Unit × Int) × Int) × Int) × Int) × Int) × Int) × List (((Unit × Int) × Int) × List Int)) × Int) × Bool) × List Int) × ((Unit × List Int) × List Int))) × List (List Int)) × List (((Unit × Int) × Int) × List Int)) × List ByteArray) × Bool)
def cluR (x : CluA) : List RepA := x.1.1.1.1.1.1.2
def cluLed (x : CluA) : List (List Int) := x.1.1.1.2
def cluDone (x : CluA) : List (((Unit × Int) × Int) × List Int) := x.1.1.2
def rApplied (r : RepA) : Int := r.1.1.2
def rCommit (r : RepA) : Int := r.1.1.1.1.2.1.1.1.1.1.2
theorem box_head {W : World} {p : Nat} {v : Value} {ts : List Value} (h : Box W p (v :: ts)) : W.cell? ⟨p, 0, none⟩ = some v := box_at h rfl
/-- The cells of a cluster. -/
structure CluC (W : World) (B : Nat) (us : List Value) (x : CluA) : Prop where
  len : us.length = 8
  one : One us
  r : ∃ o c, us[0]? = some (.slice o (cluR x).length c) ∧ (cluR x).length ≤ 1048576 ∧ ∀ j y, (cluR x)[j]? = some y → At cReplica W B o j y
  led : ∃ o c, us[4]? = some (.slice o (cluLed x).length c) ∧ (cluLed x).length ≤ 1048576 ∧ ∀ j y, (cluLed x)[j]? = some y → At cIntA2 W B o j y
  dn : ∃ o c, us[5]? = some (.slice o (cluDone x).length c) ∧ (cluDone x).length ≤ 1048576
theorem clu_parts {W : World} {B : Nat} {us : List Value} {x : CluA} (h : cCluster.rep W B us x) (ht : cCluster.tot x ≤ 1048576) : CluC W B us x := by
  have hl : us.length = 8 := (cCluster.len h).trans (by kernel_rfl)
  have h1 := cCluster.one h
  obtain ⟨⟨⟨⟨⟨⟨⟨_, x0⟩, x1⟩, x2⟩, x3⟩, x4⟩, x5⟩, x6⟩ := x
  obtain ⟨_, u6, rfl, ⟨_, u5, rfl, ⟨_, u4, rfl, ⟨_, u3, rfl, ⟨_, u2, rfl, ⟨_, u1, rfl, ⟨_, u0, rfl, rfl, h0⟩, g1⟩, h2⟩, h3⟩, h4⟩, h5⟩, h6⟩ := h
  have tt := tot_two (tot_two ht).1
  have t4 := (tot_two tt.1).2
  have t3 := (tot_two (tot_two tt.1).1).2
  have t0 := (tot_two (tot_two (tot_two (tot_two (tot_two tt.1).1).1).1).1).2
  have l1 : u1.length = 2 := (cGroup.len g1).trans (by kernel_rfl)
  obtain ⟨o0, c0, rfl, _, r0⟩ := h0
  obtain ⟨o2, c2, rfl, _, _⟩ := h2
  obtain ⟨o3, c3, rfl, _, r3⟩ := h3
  obtain ⟨o4, c4, rfl, _, _⟩ := h4
  have n0 := sumT_nn cReplica.nn x0
  have n3 := sumT_nn cIntA2.nn x3
  have n4 := sumT_nn cEntry.nn x4
  have t0' : (x0.length : Int) + sumT cReplica.tot x0 ≤ 1048576 := t0
  have t3' : (x3.length : Int) + sumT cIntA2.tot x3 ≤ 1048576 := t3
  have t4' : (x4.length : Int) + sumT cEntry.tot x4 ≤ 1048576 := t4
  obtain ⟨a1, a2, rfl⟩ : ∃ a1 a2, u1 = [a1, a2] := by
    match u1, l1 with
    | [a1, a2], _ => exact ⟨a1, a2, rfl⟩
  refine ⟨hl, h1, ⟨o0, c0, rfl, by show x0.length ≤ _; omega, r0⟩, ⟨o3, c3, rfl, by show x3.length ≤ _; omega, r3⟩, ⟨o4, c4, rfl, by show x4.length ≤ _; omega⟩⟩
/-- The cells of a replica. -/
structure RepC (W : World) (B : Nat) (us : List Value) (r : RepA) : Prop where
  len : us.length = 43
  one : One us
  cm : us[11]? = some (.int .i64 (rCommit r))
  ap : us[39]? = some (.int .i64 (rApplied r))
  up : us[42]? = some (.bool (rUp r))
theorem rep_parts {W : World} {B : Nat} {us : List Value} {r : RepA} (h : cReplica.rep W B us r) : RepC W B us r := by
  obtain ⟨hl, _, _, hup⟩ := rep_cells h
  have h1 := cReplica.one h
  obtain ⟨_, u4, rfl, ⟨_, u3, rfl, ⟨_, u2, rfl, ⟨_, u1, rfl, ⟨_, u0, rfl, rfl, h0⟩, h11⟩, h2⟩, h3⟩, h4⟩ := h
  have l1 : u1.length = 8 := (cState.len h11).trans (by kernel_rfl)
  have l3 : u3.length = 2 := (cFile.len h3).trans (by kernel_rfl)
  have l0 : u0.length = 31 := (cServer.len h0).trans (by kernel_rfl)
  have e2 : u2 = [.int .i64 (rApplied r)] := h2
  obtain ⟨_, v9, rfl, ⟨_, v8, rfl, ⟨_, v7, rfl, ⟨_, v6, rfl, ⟨_, v5, rfl, ⟨_, v4, rfl, ⟨_, v3, rfl, ⟨_, v2, rfl, ⟨_, v1, rfl, ⟨_, v0, rfl, rfl, g0⟩, g1⟩, g2⟩, g3⟩, g4⟩, g5⟩, g6⟩, g7⟩, g8⟩, g9⟩ := h0
  have m0 : v0.length = 1 := cInt.len g0
  have m1 : v1.length = 8 := (cKeep.len g1).trans (by kernel_rfl)
  have m2 : v2.length = 1 := cInt.len g2
  have m3 : v3.length = 1 := cInt.len g3
  have e4 : v4 = [.int .i64 (rCommit r)] := g4
  subst e2 e4
  refine ⟨hl, h1, ?_, ?_, hup⟩
  · have := at_seg (ps := v0 ++ v1 ++ v2 ++ v3) (bs := []) (cs := v5 ++ v6 ++ v7 ++ v8 ++ v9 ++ u1 ++ [Value.int .i64 (rApplied r)] ++ u3 ++ u4) (n := 11) (v := .int .i64 (rCommit r)) (by simp only [List.length_append, m0, m1, m2, m3])
    simpa only [List.append_assoc, List.nil_append] using this
  · have := at_seg (ps := v0 ++ v1 ++ v2 ++ v3 ++ [Value.int .i64 (rCommit r)] ++ v5 ++ v6 ++ v7 ++ v8 ++ v9 ++ u1) (bs := []) (cs := u3 ++ u4) (n := 39) (v := .int .i64 (rApplied r)) (by
      have l0' : (v0 ++ v1 ++ v2 ++ v3 ++ [Value.int .i64 (rCommit r)] ++ v5 ++ v6 ++ v7 ++ v8 ++ v9).length = 31 := by simpa only [List.nil_append] using l0
      rw [List.length_append, l0', l1])
    simpa only [List.append_assoc, List.nil_append] using this

/-- A loop of at most n rounds and one more. -/
theorem wp_count {P : Program} {c : Code} {Q : Exit → Act → World → Prop} {a : Act} {w : World} (n : Nat) (I : Nat → Act → World → Prop) (h0 : I 0 a w) (round : ∀ i a w, i ≤ n → I i a w → c.wp P (Exit.then (fun a' w' => I (i + 1) a' w' ∧ i + 1 ≤ n) Q) a w) : (Code.loop c).wp P Q a w := by
  have key : ∀ k i a w, i + k = n → I i a w → Code.rounds P c Q (k + 1) a w := by
    intro k
    induction k with
    | zero =>
      intro i a w hi h
      refine Code.wp_mono (fun e a w q => ?_) (round i a w (by omega) h)
      cases e <;> first | exact q | (exact absurd q.2 (by omega))
    | succ k ih =>
      intro i a w hi h
      refine Code.wp_mono (fun e a w q => ?_) (round i a w (by omega) h)
      cases e <;> first | exact q | (exact ih (i + 1) a w (by omega) q.1)
  exact wp_loop_rounds (n + 1) (key n 0 a w (by omega) h0)
theorem boxF {P : World → Prop} {W : World} (h : P W) : P W := h
/-- A replica whose fields are all zero. -/
def rpN : List Value := [.int .i64 0, .int .i64 0, .int .i64 0, .int .i64 0, .int .i64 0, .slice none 0 0, .slice none 0 0, .slice none 0 0, .slice none 0 0, .int .i64 0, .int .i64 0, .int .i64 0, .slice none 0 0, .int .i64 0, .int .i64 0, .int .i64 0, .int .i64 0, .int .i64 0, .int .i64 0, .int .i64 0, .int .i64 0, .int .i64 0, .int .i64 0, .int .i64 0, .int .i64 0, .int .i64 0, .int .i64 0, .int .i64 0, .int .i64 0, .int .i64 0, .int .i64 0, .slice none 0 0, .slice none 0 0, .slice none 0 0, .int .i64 0, .int .i64 0, .slice none 0 0, .int .i64 0, .int .i64 0, .int .i64 0, .slice none 0 0, .int .i64 0, .bool false]

/-- A function that puts its argument into a box and answers what a method answers of it. -/
theorem wrap1 {P : Program} {f m : FuncId} {fn : Func} {t : TypeId} {ats : Array TypeId} {us : List Value} {v : Value} {w : World} {t0 t1 t2 t3 : TypeId} {s0 s1 s2 s3 : String} {f0 f1 f2 f3 : Array Edge} {r0 r1 : Nat} (hf : P.funcs[f]? = some fn)
    (hb : fn.body = some ((Code.region r0 #[⟨some 1, .box t (.tmp 0), t0, s0, f0, none⟩, ⟨some 2, .assign (.const (.bool false)), t1, s1, f1, none⟩] false).seq ((Code.region r1 #[⟨some 3, .call { callee := .value (.func m), args := #[.tmp 1], argTypes := ats }, t2, s2, f2, none⟩, ⟨some 2, .assign (.tmp 3), t3, s3, f3, none⟩] false).seq Code.ret)))
    (hN : fn.ntmps = 4) (hres : fn.results = #[.tmp 2]) (hm : Fn P m)
    (hc : ∀ V, Box V w.heap.size us → Below w.heap.size w V → Calls P m #[.pointer (some ⟨w.heap.size, 0, none⟩)] V fun e w' => e = .returned v ∧ Below V.heap.size V w') :
    Calls P f #[.agg us.toArray] w fun e w' => e = .returned v ∧ Below w.heap.size w w' := by
  refine calls_of_wp hf hb ?_
  refine env1 (N := 4) hN (by decide) ?_
  intro a S
  refine wp_seq (wp_region_list ?_)
  refine wpl_box (us := us) (by rw [S.get 0 _ rfl]; rfl) ?_
  intro V B M _
  have S := S.put (by decide : 1 < 4) (.pointer (some ⟨w.heap.size, 0, none⟩))
  refine wpl_val (ex_assign (v := .bool false) rfl _) ?_
  have S := S.put (by decide : 2 < 4) (.bool false)
  refine wpl_nil (wp_seq (wp_region_list ?_))
  have z1 := S.get 1 _ rfl
  refine wpl_call (R := fun e w' => e = .returned v ∧ Below V.heap.size V w') hm ?_ ?_
  · simp only [List.map_toArray, List.map_cons, List.map_nil, z1]
    exact hc V B M
  rintro e U ⟨rfl, hb⟩
  refine ⟨_, rfl, ?_⟩
  have S := S.put (by decide : 3 < 4) v
  refine wpl_val (ex_assign (S.get 3 _ rfl) _) ?_
  have S := S.put (by decide : 2 < 4) v
  refine wpl_nil (wp_ret ?_)
  exact ret_at S hres rfl ⟨rfl, M.trans (hb.mono M.size)⟩

end Go.Proofs.YtjiplphfpkhmpaaGreat
