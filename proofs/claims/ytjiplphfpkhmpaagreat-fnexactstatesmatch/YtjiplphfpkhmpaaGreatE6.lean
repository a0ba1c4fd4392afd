/-
  Functions that reckon a struct's size, field by field.
-/
import Derived.Test.YtjiplphfpkhmpaaGreatE5
namespace Go.Proofs.YtjiplphfpkhmpaaGreat
open Go.RowKit

theorem run_lss {P : Program} {ti : TypeId} {x y : Operand} {m n : Int} (w : World) : (do eqGuard .lss ti x y (.int .i64 m) (.int .i64 n); binOp .lss ti (.int .i64 m) (.int .i64 n) : Sem Value).run P w = .ok (.bool (decide (m < n))) w := by
  simp [eqGuard, binOp, Op.intCmp]
theorem run_sub {P : Program} {ti : TypeId} {x y : Operand} {m n : Int} (w : World) (h1 : -9223372036854775808 ≤ m - n) (h2 : m - n ≤ 9223372036854775807) : (do eqGuard .sub ti x y (.int .i64 m) (.int .i64 n); binOp .sub ti (.int .i64 m) (.int .i64 n) : Sem Value).run P w = .ok (.int .i64 (m - n)) w := by
  have e : IntKind.i64.wrap (m - n) = m - n := by rw [IntKind.wrap_i64]; omega
  simp [eqGuard, binOp, Op.intArith, e]
theorem run_inc {P : Program} {ti : TypeId} {x y : Operand} {m : Int} (w : World) (h1 : 0 ≤ m) (h2 : m < 9223372036854775807) : (do eqGuard .add ti x y (.int .i64 m) (.int .i64 1); binOp .add ti (.int .i64 m) (.int .i64 1) : Sem Value).run P w = .ok (.int .i64 (m + 1)) w := by
  have e : IntKind.i64.wrap (m + 1) = m + 1 := by rw [IntKind.wrap_i64]; omega
  simp [eqGuard, binOp, Op.intArith, e]
theorem run_neqi {P : Program} {ti : TypeId} {x y : Operand} {m n : Int} (w : World) : (do eqGuard .neq ti x y (.int .i64 m) (.int .i64 n); binOp .neq ti (.int .i64 m) (.int .i64 n) : Sem Value).run P w = .ok (.bool (m != n)) w := by
  simp [eqGuard, binOp, Op.intCmp]

section
variable {P : Program} {a : Act} {W : World} {Q : Exit → Act → World → Prop} {y : Code} {t0 t1 t2 t3 t4 t5 t6 : TypeId} {s0 s1 s2 s3 s4 s5 s6 : String} {f0 f1 f2 f3 f4 f5 f6 : Array Edge} {id id' id'' : Nat} {w : World} {us : List Value} {N off : Nat} {L : Int}

theorem wpl_len {ops : Array Oper} {rest : List Oper} {d : Option Tmp} {ty : TypeId} {ps : String} {af : Array Edge} {x : Operand} {t : TypeId} {o : Option Addr} {n c : Nat} (ht : (match P.underlying t with | some (.slice _) => true | _ => false) = true) (hx : a.eval x = .slice o n c)
    (k : wpList P ops Q rest (a.put d (.int .i64 n)) W) : wpList P ops Q (⟨d, .call { callee := .builtin .len, args := #[x], argTypes := #[t] }, ty, ps, af, none⟩ :: rest) a W := by
  refine wpl_val (v := .int .i64 n) (w' := W) ?_ k
  cases hu : P.underlying t with
  | none => rw [hu] at ht; cases ht
  | some e =>
    rw [hu] at ht
    cases e <;> first | (simp at ht; done) | simp [execOp, resolve, invoke, builtin, Builtin.len_, Sem.run_bind, run_underlying hu, hx, goInt]
theorem wpl_lens {ops : Array Oper} {rest : List Oper} {d : Option Tmp} {ty : TypeId} {ps : String} {af : Array Edge} {x : Operand} {t : TypeId} {s : ByteArray} (ht : P.underlying t = some .string) (hx : a.eval x = .string s)
    (k : wpList P ops Q rest (a.put d (.int .i64 s.size)) W) : wpList P ops Q (⟨d, .call { callee := .builtin .len, args := #[x], argTypes := #[t] }, ty, ps, af, none⟩ :: rest) a W := by
  refine wpl_val (v := .int .i64 s.size) (w' := W) ?_ k
  simp [execOp, resolve, invoke, builtin, Builtin.len_, Sem.run_bind, run_underlying ht, hx, goInt]
theorem wpl_bin {ops : Array Oper} {rest : List Oper} {d : Option Tmp} {ty : TypeId} {ps : String} {af : Array Edge} {x z : Operand} {t t' : TypeId} {op : BinOp} {u v r : Value} (hx : a.eval x = u) (hz : a.eval z = v) (h : (do eqGuard op t x z u v; binOp op t u v : Sem Value).run P W = .ok r W)
    (k : wpList P ops Q rest (a.put d r) W) : wpList P ops Q (⟨d, .binOp op t x z t', ty, ps, af, none⟩ :: rest) a W := by
  refine wpl_val (v := r) (w' := W) ?_ k
  show (do pure (.value (← (do eqGuard op t x z _ _; binOp op t _ _ : Sem Value))) : Sem Next).run P W = _
  rw [hx, hz, Sem.run_bind, h]
  rfl

/-- Nothing is left: the answer is none; else on. -/
theorem z_cond {ti tj : TypeId} {d4 d5 : Nat} {v : Int} (h1 : a.eval (.tmp 1) = .int .i64 v) (hsz : a.tmps.size = N) (hd : 4 < d4 ∧ d4 < d5 ∧ d5 < N) (kr : v < 0 → ∀ a', a'.tmps.size = N → a'.defers = a.defers → a'.eval (.tmp 4) = .int .i64 (-1) → Q .ret a' W)
    (k : 0 ≤ v → Q .normal ((a.put (some d4) (.int .i64 v)).put (some d5) (.bool false)) W) :
    Code.wp P ((Code.region id #[⟨some d4, .move (.tmp 1), t0, s0, f0, none⟩, ⟨some d5, .binOp .lss ti (.tmp d4) (.const (.int .i64 0)) tj, t1, s1, f1, none⟩] false).seq (Code.cond (.tmp d5) ((Code.region id' #[⟨some 4, .assign (.const (.int .i64 (-1))), t2, s2, f2, none⟩] false).seq Code.ret) Code.skip)) Q a W := by
  obtain ⟨k0, k1, k2⟩ := hd
  refine wp_seq (wp_region_list ?_)
  refine wpl_move ?_
  rw [h1]
  refine wpl_bin (u := .int .i64 v) (v := .int .i64 0) (put_eq (by omega)) rfl (run_lss W) (wpl_nil ?_)
  by_cases hv : v < 0
  · rw [decide_eq_true hv]
    refine wp_cond_true (put_eq (by rw [put_sz]; omega)) (wp_seq (wp_region_list (wpl_assign (wpl_nil (wp_ret ?_)))))
    exact kr hv _ (by rw [put_sz, put_sz, put_sz]; exact hsz) rfl (put_eq (by rw [put_sz, put_sz]; omega))
  · rw [decide_eq_false hv]
    exact wp_cond_false (put_eq (by rw [put_sz]; omega)) (wp_skip (k (by omega)))

/-- So much of a struct is reckoned. -/
structure StZ {α : Type} (w : World) (us : List Value) (A : Cd α) (x : α) (L : Int) (N : Nat) (a : Act) (W : World) : Prop where
  s1 : a.eval (.tmp 1) = .int .i64 (L - A.tot x)
  ge : A.tot x ≤ L
  s2 : a.eval (.tmp 2) = .pointer (some ⟨w.heap.size, 0, none⟩)
  df : a.defers = []
  sz : a.tmps.size = N
  b0 : Box W w.heap.size us
  bl : Below w.heap.size w W

variable {α : Type} {A : Cd α} {x : α}
theorem StZ.put {t : Nat} (h : StZ w us A x L N a W) (ht : 2 < t) (v : Value) : StZ w us A x L N (a.put (some t) v) W :=
  ⟨(put_ne (by omega)).trans h.s1, h.ge, (put_ne (by omega)).trans h.s2, put_df.trans h.df, put_sz.trans h.sz, h.b0, h.bl⟩
theorem z_skip {β : Type} {T : Cd β} {b : β} (h : StZ w us A x L N a W) (h0 : T.tot b = 0) : StZ w us (cTwo A T) (x, b) L N a W := by
  have e : (cTwo A T).tot (x, b) = A.tot x := by show A.tot x + T.tot b = _; omega
  exact ⟨by rw [e]; exact h.s1, by rw [e]; exact h.ge, h.s2, h.df, h.sz, h.b0, h.bl⟩
theorem z_head {tA : TypeId} {va c : Value} {fn : Func} (hx : va.cells = us.toArray) (hN : fn.ntmps = N) (h3 : 4 < N) (hL : 0 ≤ L) (k : ∀ a' V, StZ w us cNil () L N a' V → y.wp P Q a' V) :
    Code.wp P ((Code.region id #[⟨some 2, .box tA (.tmp 0), t0, s0, f0, none⟩, ⟨some 4, .assign (.const c), t1, s1, f1, none⟩] false).seq y) Q ⟨#[va, .int .i64 L] ++ Array.replicate (fn.ntmps - (#[va, .int .i64 L] : Array Value).size) undef, []⟩ w := by
  have hz := frame2_z (x := va) (y := .int .i64 L) (n := fn.ntmps) (by omega)
  refine wp_seq (wp_region_list ?_)
  refine wpl_box (us := us) (by rw [frame2_0]; exact hx) ?_
  intro V b1 l1 z1
  refine wpl_assign (wpl_nil (k _ V ?_))
  refine StZ.put ⟨?_, hL, ?_, put_df, by rw [put_sz, hz, hN], b1, l1⟩ (by omega) _
  · rw [put_ne (by omega), frame2_1]
    show _ = Value.int .i64 (L - 0)
    rw [Int.sub_zero]
  · exact put_eq (by rw [hz]; omega)
theorem z_test {β : Type} {T : Cd β} {b : β} {ti tj : TypeId} {d4 d5 : Nat} {c : World} (h : StZ w us A x L N a c) (hb : Below c.heap.size c W) (hd : 4 < d4 ∧ d4 < d5 ∧ d5 < N)
    (kr : ¬ A.tot x + T.tot b ≤ L → ∀ a', a'.tmps.size = N → a'.defers = [] → a'.eval (.tmp 4) = .int .i64 (-1) → Below w.heap.size w W → Q .ret a' W)
    (k : ∀ a', StZ w us (cTwo A T) (x, b) L N a' W → y.wp P Q a' W) :
    Code.wp P (((Code.region id #[⟨some d4, .move (.tmp 1), t0, s0, f0, none⟩, ⟨some d5, .binOp .lss ti (.tmp d4) (.const (.int .i64 0)) tj, t1, s1, f1, none⟩] false).seq (Code.cond (.tmp d5) ((Code.region id' #[⟨some 4, .assign (.const (.int .i64 (-1))), t2, s2, f2, none⟩] false).seq Code.ret) Code.skip)).seq y) Q (a.put (some 1) (.int .i64 (szL (L - A.tot x) (T.tot b)))) W := by
  have hsz := h.sz
  have hbl := h.bl.trans (hb.mono h.bl.size)
  have e : (cTwo A T).tot (x, b) = A.tot x + T.tot b := rfl
  refine wp_seq (z_cond (N := N) (put_eq (by omega)) (put_sz.trans hsz) hd ?_ ?_)
  · intro hv a' h1 h2 h3
    refine kr ?_ a' h1 (h2.trans (put_df.trans h.df)) h3 hbl
    intro hle
    rw [szL_yes (by omega)] at hv
    omega
  · intro hv
    have hle : T.tot b ≤ L - A.tot x := by
      by_cases hq : T.tot b ≤ L - A.tot x
      · exact hq
      · rw [szL_no hq] at hv; omega
    rw [szL_yes hle]
    refine k _ (StZ.put (StZ.put ⟨?_, by rw [e]; omega, (put_ne (by omega)).trans h.s2, put_df.trans h.df, put_sz.trans hsz, h.b0.later hb, hbl⟩ (by omega) _) (by omega) _)
    rw [put_eq (by omega), e]
    congr 1
    omega
theorem z_call {tA tx ti tj : TypeId} {ats : Array TypeId} {f : FuncId} {d0 d1 d2 d3 d4 d5 i n : Nat} {u0 u1 u2 : TypeId} {v0 v1' v2 : String} {g0 g1 g2 : Array Edge} (h : StZ w us A x L N a W) (hd : 4 < d0 ∧ d0 < d1 ∧ d1 < d2 ∧ d2 < d3 ∧ d3 < d4 ∧ d4 < d5 ∧ d5 < N) (hA : fldB P tA i off = true)
    {β : Type} (T : Cd β) (b : β) (v : List Value → Value) (hk : T.k = n) (hv : (v = vA ∧ Agg P tx n) ∨ (v = v1 ∧ Sca P tx ∧ n = 1)) (hf : Fn P f) (hC : SzC P T v f) (hL : L ≤ 1048576)
    {pre post qs : List Value} (hr : T.rep w 0 qs b) (hu : us = pre ++ (qs ++ post)) (hp : pre.length = off)
    (kr : ¬ A.tot x + T.tot b ≤ L → ∀ a' V, a'.tmps.size = N → a'.defers = [] → a'.eval (.tmp 4) = .int .i64 (-1) → Below w.heap.size w V → Q .ret a' V)
    (k : ∀ a' V, StZ w us (cTwo A T) (x, b) L N a' V → y.wp P Q a' V) :
    Code.wp P ((Code.region id #[⟨some d0, .fieldAddr tA (.tmp 2) i, t0, s0, f0, none⟩, ⟨some d1, .load tx (.tmp d0), t1, s1, f1, none⟩, ⟨some d2, .move (.tmp 1), t2, s2, f2, none⟩, ⟨some d3, .call { callee := .value (.func f), args := #[.tmp d1, .tmp d2], argTypes := ats }, t3, s3, f3, none⟩, ⟨some 1, .assign (.tmp d3), t4, s4, f4, none⟩] false).seq
      (((Code.region id' #[⟨some d4, .move (.tmp 1), u0, v0, g0, none⟩, ⟨some d5, .binOp .lss ti (.tmp d4) (.const (.int .i64 0)) tj, u1, v1', g1, none⟩] false).seq (Code.cond (.tmp d5) ((Code.region id'' #[⟨some 4, .assign (.const (.int .i64 (-1))), u2, v2, g2, none⟩] false).seq Code.ret) Code.skip)).seq y)) Q a W := by
  obtain ⟨k0, k1, k2, k3, k4, k5, k6⟩ := hd
  have hz := h.sz
  have b0 := h.b0
  rw [hu] at b0
  have hn := (T.len hr).trans hk
  have hseg := Box.seg b0 hp
  have ld : (loadVar tx ⟨w.heap.size, off, none⟩).run P W = .ok (v qs) W := by
    rcases hv with ⟨rfl, hag⟩ | ⟨rfl, hsc, h1⟩
    · rw [← hn] at hag
      exact run_loadE W hag hseg
    · subst h1
      cases qs with
      | nil => cases hn
      | cons u t =>
        have : t = [] := List.length_eq_zero_iff.1 (by simpa using hn)
        subst this
        exact run_loadS W hsc hseg.one
  refine wp_seq (wp_region_list ?_)
  refine wpl_field h.s2 hA ?_
  refine wpl_val (v := v qs) (w' := W) (by simp only [execOp, put_eq (show d0 < a.tmps.size by omega), Instr.loadAt, Instr.sureAddr, Sem.run_bind, Sem.run_pure, Result.andThen_ok, ld]) ?_
  have g := (h.put (by omega : 2 < d0) (.pointer (some ⟨w.heap.size, off, none⟩))).put (by omega : 2 < d1) (v qs)
  refine wpl_move ?_
  rw [g.s1]
  have g2 := g.put (by omega : 2 < d2) (.int .i64 (L - A.tot x))
  have e1 : (((a.put (some d0) (.pointer (some ⟨w.heap.size, off, none⟩))).put (some d1) (v qs)).put (some d2) (.int .i64 (L - A.tot x))).eval (.tmp d1) = v qs := (put_ne (by omega)).trans (put_eq (by rw [put_sz]; omega))
  have e2 : (((a.put (some d0) (.pointer (some ⟨w.heap.size, off, none⟩))).put (some d1) (v qs)).put (some d2) (.int .i64 (L - A.tot x))).eval (.tmp d2) = .int .i64 (L - A.tot x) := put_eq (by rw [put_sz, put_sz]; omega)
  have hge := h.ge
  have hnn := A.nn x
  refine wpl_call hf (R := fun e w' => e = .returned (.int .i64 (szL (L - A.tot x) (T.tot b))) ∧ Below W.heap.size W w') ?_ ?_
  · have := hC qs b W (L - A.tot x) (T.frm hr (Fr.of h.bl)) (by omega) (by omega)
    simpa only [List.map_toArray, List.map_cons, List.map_nil, e1, e2] using this
  rintro e V ⟨rfl, hbl⟩
  refine ⟨_, rfl, ?_⟩
  refine wpl_assign (wpl_nil ?_)
  rw [put_eq (by rw [put_sz, put_sz, put_sz]; omega)]
  exact z_test (g2.put (by omega : 2 < d3) _) hbl (by omega) (fun hn a' h1 h2 h3 h4 => kr hn a' V h1 h2 h3 h4) (fun a' ha => k a' V ha)
theorem z_str {tA tx ti tj tm tn : TypeId} {d0 d1 d2 d3 d4 d5 d6 i : Nat} {u0 u1 u2 : TypeId} {v0 v1' v2 : String} {g0 g1 g2 : Array Edge} (h : StZ w us A x L N a W) (hd : 4 < d0 ∧ d0 < d1 ∧ d1 < d2 ∧ d2 < d3 ∧ d3 < d4 ∧ d4 < d5 ∧ d5 < d6 ∧ d6 < N) (hA : fldB P tA i off = true) (hs : P.underlying tx = some .string) (hx : Sca P tx)
    (b : ByteArray) (hL : L ≤ 1048576) {pre post qs : List Value} (hr : cStr.rep w 0 qs b) (hu : us = pre ++ (qs ++ post)) (hp : pre.length = off)
    (kr : ¬ A.tot x + cStr.tot b ≤ L → ∀ a' V, a'.tmps.size = N → a'.defers = [] → a'.eval (.tmp 4) = .int .i64 (-1) → Below w.heap.size w V → Q .ret a' V)
    (k : ∀ a' V, StZ w us (cTwo A cStr) (x, b) L N a' V → y.wp P Q a' V) :
    Code.wp P ((Code.region id #[⟨some d0, .move (.tmp 1), t0, s0, f0, none⟩, ⟨some d1, .fieldAddr tA (.tmp 2) i, t1, s1, f1, none⟩, ⟨some d2, .load tx (.tmp d1), t2, s2, f2, none⟩, ⟨some d3, .call { callee := .builtin .len, args := #[.tmp d2], argTypes := #[tx] }, t3, s3, f3, none⟩, ⟨some d4, .binOp .sub tm (.tmp d0) (.tmp d3) tn, t4, s4, f4, none⟩, ⟨some 1, .assign (.tmp d4), t5, s5, f5, none⟩] false).seq
      (((Code.region id' #[⟨some d5, .move (.tmp 1), u0, v0, g0, none⟩, ⟨some d6, .binOp .lss ti (.tmp d5) (.const (.int .i64 0)) tj, u1, v1', g1, none⟩] false).seq (Code.cond (.tmp d6) ((Code.region id'' #[⟨some 4, .assign (.const (.int .i64 (-1))), u2, v2, g2, none⟩] false).seq Code.ret) Code.skip)).seq y)) Q a W := by
  obtain ⟨k0, k1, k2, k3, k4, k5, k6, k7⟩ := hd
  obtain ⟨rfl, hb⟩ := hr
  have hz := h.sz
  have b0 := h.b0
  rw [hu] at b0
  have hge := h.ge
  have hnn := A.nn x
  have ht : cStr.tot b = (b.size : Int) := rfl
  refine wp_seq (wp_region_list ?_)
  refine wpl_move ?_
  rw [h.s1]
  have g := h.put (by omega : 2 < d0) (.int .i64 (L - A.tot x))
  refine wpl_field g.s2 hA ?_
  refine wpl_loadS rfl tx (.tmp d1) rfl (put_eq (by rw [put_sz]; omega)) (.string b) hx (Box.seg b0 hp).one ?_
  refine wpl_lens hs (put_eq (by rw [put_sz, put_sz]; omega)) ?_
  refine wpl_bin (u := .int .i64 (L - A.tot x)) (v := .int .i64 b.size) ((put_ne (by omega)).trans ((put_ne (by omega)).trans ((put_ne (by omega)).trans (put_eq (by omega))))) (put_eq (by rw [put_sz, put_sz, put_sz]; omega)) (run_sub W (by omega) (by omega)) ?_
  refine wpl_assign (wpl_nil ?_)
  rw [put_eq (by rw [put_sz, put_sz, put_sz, put_sz]; omega)]
  have g5 := (((g.put (by omega : 2 < d1) (.pointer (some ⟨w.heap.size, off, none⟩))).put (by omega : 2 < d2) (.string b)).put (by omega : 2 < d3) (.int .i64 b.size)).put (by omega : 2 < d4) (.int .i64 (L - A.tot x - b.size))
  refine wp_seq (z_cond (N := N) (put_eq (by rw [put_sz, put_sz, put_sz, put_sz, put_sz]; omega)) (put_sz.trans g5.sz) (by omega) ?_ ?_)
  · intro hv a' h1 h2 h3
    exact kr (by rw [ht]; omega) a' W h1 (h2.trans (put_df.trans g5.df)) h3 h.bl
  · intro hv
    have e : (cTwo A cStr).tot (x, b) = A.tot x + b.size := rfl
    refine k _ W (StZ.put (StZ.put ⟨?_, by rw [e]; omega, (put_ne (by omega)).trans g5.s2, put_df.trans g5.df, put_sz.trans g5.sz, h.b0, h.bl⟩ (by omega) _) (by omega) _)
    rw [put_eq (by rw [put_sz, put_sz, put_sz, put_sz, put_sz]; omega), e]
    congr 1
    omega
theorem z_tail {fn : Func} {R : Ending → World → Prop} {d : Nat} (h : StZ w us A x L N a W) (hd : 4 < d ∧ d < N) (hres : fn.results = #[.tmp 4]) (k : A.tot x ≤ L → Below w.heap.size w W → R (.returned (.int .i64 (L - A.tot x))) W) :
    Code.wp P ((Code.region id #[⟨some d, .move (.tmp 1), t0, s0, f0, none⟩, ⟨some 4, .assign (.tmp d), t1, s1, f1, none⟩] false).seq Code.ret) (bodyPost P fn R) a W := by
  obtain ⟨k0, k1⟩ := hd
  have hz := h.sz
  refine wp_seq (wp_region_list (wpl_move (wpl_assign (wpl_nil (wp_ret ?_)))))
  rw [h.s1, put_eq (by omega)]
  refine bodyPost_ret (v := .int .i64 (L - A.tot x)) ?_ (put_df.trans (put_df.trans h.df)) (k h.ge h.bl)
  have e4 : ((a.put (some d) (.int .i64 (L - A.tot x))).put (some 4) (.int .i64 (L - A.tot x))).tmps.getD 4 undef = .int .i64 (L - A.tot x) := put_eq (by rw [put_sz]; omega)
  have e5 : ((a.put (some d) (.int .i64 (L - A.tot x))).put (some 4) (.int .i64 (L - A.tot x))).tmps[4]?.getD undef = .int .i64 (L - A.tot x) := by simpa using e4
  simp [results, hres, e5]
theorem z_ret {fn : Func} {R : Ending → World → Prop} {v : Value} (hres : fn.results = #[.tmp 4]) (h4 : a.eval (.tmp 4) = v) (hd : a.defers = []) (k : R (.returned v) W) : bodyPost P fn R .ret a W := by
  refine bodyPost_ret (v := v) ?_ hd k
  have e4 : a.tmps.getD 4 undef = v := h4
  have e5 : a.tmps[4]?.getD undef = v := by simpa using e4
  simp [results, hres, e5]
end

end Go.Proofs.YtjiplphfpkhmpaaGreat
