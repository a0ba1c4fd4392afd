/-
  Functions that look at two structs, field by field, or reckon one's size.
-/
import Derived.Test.YtjiplphfpkhmpaaGreatE4
namespace Go.Proofs.YtjiplphfpkhmpaaGreat
open Go.RowKit

/-- Two such values are one. -/
def NeqS (P : Program) (tx : TypeId) (v : Value) : Prop := ∀ (x y : Operand) (w : World), (do eqGuard .neq tx x y v v; binOp .neq tx v v : Sem Value).run P w = .ok (.bool false) w
theorem neq_int {P : Program} {tx : TypeId} {k : IntKind} {n : Int} : NeqS P tx (.int k n) := fun x y w => by simp [eqGuard, binOp, Op.intCmp]
theorem neq_str {P : Program} {tx : TypeId} {s : ByteArray} : NeqS P tx (.string s) := fun x y w => by simp [eqGuard, binOp, Op.stringOp]
theorem neq_bool {P : Program} {tx : TypeId} {b : Bool} (h : P.underlying tx = some .bool) : NeqS P tx (.bool b) := fun x y w => by
  have h1 : (Op.equalIn Op.maxDepth tx (.bool b) (.bool b)).run P w = .ok true w := by
    show (Op.equalIn (_ + 1) tx (.bool b) (.bool b)).run P w = .ok true w
    unfold Op.equalIn
    rw [Sem.run_bind, run_underlying h w]
    simp
  simp [eqGuard, binOp, Op.equal, h1]

section
variable {P : Program} {a : Act} {W : World} {Q : Exit → Act → World → Prop} {y c1 : Code} {t0 t1 t2 t3 t4 t5 t6 : TypeId} {s0 s1 s2 s3 s4 s5 s6 : String} {f0 f1 f2 f3 f4 f5 f6 : Array Edge} {id id' id'' : Nat} {w : World} {us vs : List Value} {N off : Nat}

theorem frame_0 {x : Value} {r : Array Value} : (⟨#[x] ++ r, []⟩ : Act).eval (.tmp 0) = x := by
  show (#[x] ++ _ : Array Value).getD 0 undef = x
  rw [Array.getD_eq_getD_getElem?, Array.getElem?_append_left (by show 0 < 1; omega)]
  rfl
theorem frame2_0 {x y : Value} {r : Array Value} : (⟨#[x, y] ++ r, []⟩ : Act).eval (.tmp 0) = x := by
  show (#[x, y] ++ _ : Array Value).getD 0 undef = x
  rw [Array.getD_eq_getD_getElem?, Array.getElem?_append_left (by show 0 < 2; omega)]
  rfl
theorem frame2_1 {x y : Value} {r : Array Value} : (⟨#[x, y] ++ r, []⟩ : Act).eval (.tmp 1) = y := by
  show (#[x, y] ++ _ : Array Value).getD 1 undef = y
  rw [Array.getD_eq_getD_getElem?, Array.getElem?_append_left (by show 1 < 2; omega)]
  rfl
theorem frame2_z {x y : Value} {n : Nat} (h : 2 ≤ n) : (⟨#[x, y] ++ Array.replicate (n - (#[x, y] : Array Value).size) undef, []⟩ : Act).tmps.size = n := by
  rw [Array.size_append, Array.size_replicate]
  show 2 + (n - 2) = n
  omega

/-- So much of two structs is one. -/
structure StQ (w : World) (us vs : List Value) (N : Nat) (a : Act) (W : World) : Prop where
  s2 : a.eval (.tmp 2) = .pointer (some ⟨w.heap.size, 0, none⟩)
  s3 : a.eval (.tmp 3) = .pointer (some ⟨w.heap.size + 1, 0, none⟩)
  df : a.defers = []
  sz : a.tmps.size = N
  b0 : Box W w.heap.size us
  b1 : Box W (w.heap.size + 1) vs
  bl : Below w.heap.size w W
theorem StQ.put {t : Nat} (h : StQ w us vs N a W) (ht : 3 < t) (v : Value) : StQ w us vs N (a.put (some t) v) W :=
  ⟨(put_ne (by omega)).trans h.s2, (put_ne (by omega)).trans h.s3, put_df.trans h.df, put_sz.trans h.sz, h.b0, h.b1, h.bl⟩
theorem StQ.later {V : World} (h : StQ w us vs N a W) (b : Below W.heap.size W V) : StQ w us vs N a V := ⟨h.s2, h.s3, h.df, h.sz, h.b0.later b, h.b1.later b, h.bl.trans (b.mono h.bl.size)⟩

theorem q_head {tA tB : TypeId} {va vb : Value} {fn : Func} {c : Value} (hx : va.cells = us.toArray) (hy : vb.cells = vs.toArray) (hN : fn.ntmps = N) (h3 : 4 < N)
    (k : ∀ a' V, StQ w us vs N a' V → y.wp P Q a' V) :
    Code.wp P ((Code.region id #[⟨some 2, .box tA (.tmp 0), t0, s0, f0, none⟩, ⟨some 3, .box tB (.tmp 1), t1, s1, f1, none⟩, ⟨some 4, .assign (.const c), t2, s2, f2, none⟩] false).seq y) Q ⟨#[va, vb] ++ Array.replicate (fn.ntmps - (#[va, vb] : Array Value).size) undef, []⟩ w := by
  have hz := frame2_z (x := va) (y := vb) (n := fn.ntmps) (by omega)
  refine wp_seq (wp_region_list ?_)
  refine wpl_box (us := us) (by rw [frame2_0]; exact hx) ?_
  intro V1 b1 l1 z1
  refine wpl_box (us := vs) (by rw [put_ne (by omega), frame2_1]; exact hy) ?_
  intro V2 b2 l2 z2
  refine wpl_assign (wpl_nil (k _ V2 ?_))
  refine StQ.put ⟨?_, ?_, ?_, ?_, b1.later l2, by rw [z1] at b2; exact b2, l1.trans (l2.mono (by omega))⟩ (by omega) _
  · exact (put_ne (by omega)).trans (put_eq (by rw [hz]; omega))
  · rw [z1]; exact put_eq (by rw [put_sz, hz]; omega)
  · exact put_df.trans put_df
  · rw [put_sz, put_sz, hz, hN]

theorem q_cell {tA tx ty tz : TypeId} {d0 d1 d2 d3 d4 i : Nat} (h : StQ w us vs N a W) (hd : 3 < d0 ∧ d0 < d1 ∧ d1 < d2 ∧ d2 < d3 ∧ d3 < d4 ∧ d4 < N) (hA : fldB P tA i off = true) (ht : Sca P tx) (v : Value) {pv qv : List Value} (ev : pv = [v]) (ew : qv = [v])
    {pre post pre' post' : List Value} (hu : us = pre ++ (pv ++ post)) (hp : pre.length = off) (hu' : vs = pre' ++ (qv ++ post')) (hp' : pre'.length = off) (hne : NeqS P ty v)
    (k : ∀ a', StQ w us vs N a' W → y.wp P Q a' W) :
    Code.wp P (((Code.region id #[⟨some d0, .fieldAddr tA (.tmp 2) i, t0, s0, f0, none⟩, ⟨some d1, .load tx (.tmp d0), t1, s1, f1, none⟩, ⟨some d2, .fieldAddr tA (.tmp 3) i, t2, s2, f2, none⟩, ⟨some d3, .load tx (.tmp d2), t3, s3, f3, none⟩, ⟨some d4, .binOp .neq ty (.tmp d1) (.tmp d3) tz, t4, s4, f4, none⟩] false).seq (Code.cond (.tmp d4) c1 .skip)).seq y) Q a W := by
  subst ev ew
  obtain ⟨k0, k1, k2, k3, k4, k5⟩ := hd
  have hz := h.sz
  have b0 := h.b0
  have b1 := h.b1
  rw [hu] at b0
  rw [hu'] at b1
  refine wp_seq (wp_seq (wp_region_list ?_))
  refine wpl_field h.s2 hA ?_
  refine wpl_loadS rfl tx (.tmp d0) rfl (put_eq (by omega)) v ht (Box.seg b0 hp).one ?_
  have g := (h.put (by omega : 3 < d0) (.pointer (some ⟨w.heap.size, off, none⟩))).put (by omega : 3 < d1) v
  refine wpl_field g.s3 hA ?_
  refine wpl_loadS rfl tx (.tmp d2) rfl (put_eq (by rw [put_sz, put_sz]; omega)) v ht (Box.seg b1 hp').one ?_
  have g2 := (g.put (by omega : 3 < d2) (.pointer (some ⟨w.heap.size + 1, off, none⟩))).put (by omega : 3 < d3) v
  refine wpl_val (v := .bool false) (w' := W) ?_ ?_
  · have e1 : ((((a.put (some d0) (.pointer (some ⟨w.heap.size, off, none⟩))).put (some d1) v).put (some d2) (.pointer (some ⟨w.heap.size + 1, off, none⟩))).put (some d3) v).eval (.tmp d1) = v := (put_ne (by omega)).trans ((put_ne (by omega)).trans (put_eq (by rw [put_sz]; omega)))
    have e3 : ((((a.put (some d0) (.pointer (some ⟨w.heap.size, off, none⟩))).put (some d1) v).put (some d2) (.pointer (some ⟨w.heap.size + 1, off, none⟩))).put (some d3) v).eval (.tmp d3) = v := put_eq (by rw [put_sz, put_sz, put_sz]; omega)
    have hr := hne (.tmp d1) (.tmp d3) W
    show (do pure (.value (← (do eqGuard .neq ty (.tmp d1) (.tmp d3) _ _; binOp .neq ty _ _ : Sem Value))) : Sem Next).run P W = _
    rw [e1, e3, Sem.run_bind, hr]
    rfl
  refine wpl_nil (wp_cond_false (put_eq (by rw [put_sz, put_sz, put_sz, put_sz]; omega)) (wp_skip (k _ (g2.put (by omega) _))))

theorem q_call {tA tx ty : TypeId} {ats : Array TypeId} {f : FuncId} {d0 d1 d2 d3 d4 d5 i n : Nat} (h : StQ w us vs N a W) (hd : 3 < d0 ∧ d0 < d1 ∧ d1 < d2 ∧ d2 < d3 ∧ d3 < d4 ∧ d4 < d5 ∧ d5 < N) (hA : fldB P tA i off = true)
    {β : Type} (T : Cd β) (b : β) (v : List Value → Value) (hk : T.k = n) (hv : (v = vA ∧ Agg P tx n) ∨ (v = v1 ∧ Sca P tx ∧ n = 1)) (hf : Fn P f) (hC : EqC P T v f)
    {pre post pre' post' qs rs : List Value} (hr : T.rep w 0 qs b) (hr' : T.rep w 0 rs b) (hx : T.tot b ≤ 1048576) (hu : us = pre ++ (qs ++ post)) (hp : pre.length = off) (hu' : vs = pre' ++ (rs ++ post')) (hp' : pre'.length = off)
    (k : ∀ a' V, StQ w us vs N a' V → y.wp P Q a' V) :
    Code.wp P (((Code.region id #[⟨some d0, .fieldAddr tA (.tmp 2) i, t0, s0, f0, none⟩, ⟨some d1, .load tx (.tmp d0), t1, s1, f1, none⟩, ⟨some d2, .fieldAddr tA (.tmp 3) i, t2, s2, f2, none⟩, ⟨some d3, .load tx (.tmp d2), t3, s3, f3, none⟩, ⟨some d4, .call { callee := .value (.func f), args := #[.tmp d1, .tmp d3], argTypes := ats }, t4, s4, f4, none⟩, ⟨some d5, .unOp .not ty (.tmp d4), t5, s5, f5, none⟩] false).seq (Code.cond (.tmp d5) c1 .skip)).seq y) Q a W := by
  obtain ⟨k0, k1, k2, k3, k4, k5, k6⟩ := hd
  have hz := h.sz
  have b0 := h.b0
  have b1 := h.b1
  rw [hu] at b0
  rw [hu'] at b1
  have ld : ∀ {p : Nat} {qs : List Value}, T.rep w 0 qs b → Seg W p off qs → (loadVar tx ⟨p, off, none⟩).run P W = .ok (v qs) W := by
    intro p qs hr hs
    have hn := (T.len hr).trans hk
    rcases hv with ⟨rfl, hag⟩ | ⟨rfl, hsc, h1⟩
    · rw [← hn] at hag
      exact run_loadE W hag hs
    · subst h1
      cases qs with
      | nil => cases hn
      | cons u t =>
        have : t = [] := List.length_eq_zero_iff.1 (by simpa using hn)
        subst this
        exact run_loadS W hsc hs.one
  refine wp_seq (wp_seq (wp_region_list ?_))
  refine wpl_field h.s2 hA ?_
  refine wpl_val (v := v qs) (w' := W) (by simp only [execOp, put_eq (show d0 < a.tmps.size by omega), Instr.loadAt, Instr.sureAddr, Sem.run_bind, Sem.run_pure, Result.andThen_ok, ld hr (Box.seg b0 hp)]) ?_
  have g := (h.put (by omega : 3 < d0) (.pointer (some ⟨w.heap.size, off, none⟩))).put (by omega : 3 < d1) (v qs)
  refine wpl_field g.s3 hA ?_
  refine wpl_val (v := v rs) (w' := W) (by simp only [execOp, put_eq (show d2 < ((a.put (some d0) (.pointer (some ⟨w.heap.size, off, none⟩))).put (some d1) (v qs)).tmps.size by rw [put_sz, put_sz]; omega), Instr.loadAt, Instr.sureAddr, Sem.run_bind, Sem.run_pure, Result.andThen_ok, ld hr' (Box.seg b1 hp')]) ?_
  have g2 := (g.put (by omega : 3 < d2) (.pointer (some ⟨w.heap.size + 1, off, none⟩))).put (by omega : 3 < d3) (v rs)
  have e1 : ((((a.put (some d0) (.pointer (some ⟨w.heap.size, off, none⟩))).put (some d1) (v qs)).put (some d2) (.pointer (some ⟨w.heap.size + 1, off, none⟩))).put (some d3) (v rs)).eval (.tmp d1) = v qs := (put_ne (by omega)).trans ((put_ne (by omega)).trans (put_eq (by rw [put_sz]; omega)))
  have e3 : ((((a.put (some d0) (.pointer (some ⟨w.heap.size, off, none⟩))).put (some d1) (v qs)).put (some d2) (.pointer (some ⟨w.heap.size + 1, off, none⟩))).put (some d3) (v rs)).eval (.tmp d3) = v rs := put_eq (by rw [put_sz, put_sz, put_sz]; omega)
  refine wpl_call hf (R := fun e w' => e = .returned (.bool true) ∧ Below W.heap.size W w') ?_ ?_
  · have := hC qs rs b W (T.frm hr (Fr.of h.bl)) (T.frm hr' (Fr.of h.bl)) hx
    simpa only [List.map_toArray, List.map_cons, List.map_nil, e1, e3] using this
  rintro e V ⟨rfl, hbl⟩
  refine ⟨_, rfl, ?_⟩
  have g3 := (g2.later hbl).put (by omega : 3 < d4) (.bool true)
  refine wpl_val (v := .bool false) (w' := V) ?_ ?_
  · have e5 : (((((a.put (some d0) (.pointer (some ⟨w.heap.size, off, none⟩))).put (some d1) (v qs)).put (some d2) (.pointer (some ⟨w.heap.size + 1, off, none⟩))).put (some d3) (v rs)).put (some d4) (.bool true)).eval (.tmp d4) = .bool true := put_eq (by rw [put_sz, put_sz, put_sz, put_sz]; omega)
    simp [execOp, e5, Op.unary]
  refine wpl_nil (wp_cond_false (put_eq (by rw [put_sz, put_sz, put_sz, put_sz, put_sz]; omega)) (wp_skip (k _ V (g3.put (by omega) _))))

theorem q_tail {fn : Func} {R : Ending → World → Prop} (h : StQ w us vs N a W) (hN : 4 < N) (hres : fn.results = #[.tmp 4]) (k : Below w.heap.size w W → R (.returned (.bool true)) W) :
    Code.wp P ((Code.region id #[⟨some 4, .assign (.const (.bool true)), t0, s0, f0, none⟩] false).seq Code.ret) (bodyPost P fn R) a W := by
  have hz := h.sz
  refine wp_seq (wp_region_list (wpl_assign (wpl_nil (wp_ret ?_))))
  refine bodyPost_ret (v := .bool true) ?_ (put_df.trans h.df) (k h.bl)
  have e4 : (a.put (some 4) (.bool true)).tmps.getD 4 undef = .bool true := put_eq (by omega)
  have e5 : (a.put (some 4) (.bool true)).tmps[4]?.getD undef = .bool true := by simpa using e4
  simp [results, hres, Act.eval, e5]
end

end Go.Proofs.YtjiplphfpkhmpaaGreat
