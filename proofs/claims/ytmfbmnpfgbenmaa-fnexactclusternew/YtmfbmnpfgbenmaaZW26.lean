/-
  Functions that look for marks in a row, or in what a struct holds.
-/
import Derived.Test.YtmfbmnpfgbenmaaZW24
import Derived.Test.YtmfbmnpfgbenmaaZW25
namespace Go.Proofs.Ytmfbmnpfgbenmaa
open Go.RowKit

section
variable {P : Program} {a : Act} {W : World} {Q : Exit → Act → World → Prop} {α : Type} {T : Mw α} {w : World} {N : Nat} {y body : Code} {t0 t1 t2 t3 t4 t5 t6 t7 t8 t9 t10 t11 t12 t13 : TypeId} {s0 s1 s2 s3 s4 s5 s6 s7 s8 s9 s10 s11 s12 s13 : String} {f0 f1 f2 f3 f4 f5 f6 f7 f8 f9 f10 f11 f12 f13 : Array Edge} {r0 r1 r2 r3 r4 r5 b0 b1 id id' : Nat}

theorem row_held {fn : Func} {vs : List Value} {xs : List α} {k : Int} {e0 e1 e2 e3 e4 e5 e6 : Nat} {tA ti tj tk tm : TypeId} {cv : Value} (hN : fn.ntmps = N) (hd : 5 < e0 ∧ e0 < e1 ∧ e1 < e2 ∧ e2 < e3 ∧ e3 < e4 ∧ e4 < e5 ∧ e5 < e6 ∧ e6 < N) (hres : fn.results = #[.tmp 4]) (hA : (match P.underlying tA with | some (.slice _) => true | _ => false) = true)
    (hrep : (mRow T).cd.rep w 0 vs xs) (hful : (mRow T).byv xs k) (h1 : 1 ≤ k) (hk : k + (mRow T).cntV xs ≤ 4611686018427387904) (hl : xs.length < 9223372036854775807)
    (hb : ∀ (a : Act) (W : World) (p o n c i : Nat) (x : α) (k : Int), Sl N 5 i (some ⟨p, o, none⟩) n c k a → i < n → HdE T W p (o + i * T.cd.k) x k → 1 ≤ k → k + T.cntF x ≤ 4611686018427387904 →
      ∀ Q' : Exit → Act → World → Prop, (∀ a' W', Sl N 5 i (some ⟨p, o, none⟩) n c (k + T.cntF x) a' → Below W.heap.size W W' → Q' .normal a' W') → body.wp P Q' a W) :
    Code.wp P ((Code.region r0 #[⟨some 4, .assign (.const cv), t0, s0, f0, none⟩] false).seq
      (((Code.region r1 #[⟨some 5, .assign (.const (.int .i64 0)), t1, s1, f1, none⟩] false).seq (Code.block b0 (Code.loop
        (((Code.region r2 #[⟨some e0, .move (.tmp 5), t2, s2, f2, none⟩, ⟨some e1, .move (.tmp 0), t3, s3, f3, none⟩, ⟨some e2, .call { callee := .builtin .len, args := #[.tmp e1], argTypes := #[tA] }, t4, s4, f4, none⟩, ⟨some e3, .binOp .lss ti (.tmp e0) (.tmp e2) tj, t5, s5, f5, none⟩] false).seq (Code.cond (.tmp e3) Code.skip (Code.exit b0))).seq
          ((Code.block b1 body).seq (Code.region r3 #[⟨some e4, .move (.tmp 5), t6, s6, f6, none⟩, ⟨some e5, .binOp .add tk (.tmp e4) (.const (.int .i64 1)) tm, t7, s7, f7, none⟩, ⟨some 5, .assign (.tmp e5), t8, s8, f8, none⟩] false)))))).seq
      ((Code.region r4 #[⟨some e6, .move (.tmp 1), t9, s9, f9, none⟩, ⟨some 4, .assign (.tmp e6), t10, s10, f10, none⟩] false).seq Code.ret)))
      (bodyPost P fn fun e V => e = .returned (.int .i64 (k + (mRow T).cntV xs)) ∧ Below w.heap.size w V) ⟨#[v1 vs, .int .i64 k] ++ Array.replicate (fn.ntmps - (#[v1 vs, .int .i64 k] : Array Value).size) undef, []⟩ w := by
  have hK0 : k + ((psum T.cntF xs 0 : Nat) : Int) = k := by rw [psum_0]; omega
  obtain ⟨o, c, rfl, _, hat⟩ := hrep
  have h := row_cnt (P := P) (w := w) (fn := fn) (N := N) (K := fun i => k + (psum T.cntF xs i : Nat)) (D := fun _ V => Below w.heap.size w V) (o := o) (n := xs.length) (c := c) (body := body) (cv := cv) (tA := tA) (ti := ti) (tj := tj) (tk := tk) (tm := tm) (t0 := t0) (t1 := t1) (t2 := t2) (t3 := t3) (t4 := t4) (t5 := t5) (t6 := t6) (t7 := t7) (t8 := t8) (t9 := t9) (t10 := t10) (s0 := s0) (s1 := s1) (s2 := s2) (s3 := s3) (s4 := s4) (s5 := s5) (s6 := s6) (s7 := s7) (s8 := s8) (s9 := s9) (s10 := s10) (f0 := f0) (f1 := f1) (f2 := f2) (f3 := f3) (f4 := f4) (f5 := f5) (f6 := f6) (f7 := f7) (f8 := f8) (f9 := f9) (f10 := f10) (r0 := r0) (r1 := r1) (r2 := r2) (r3 := r3) (r4 := r4) (b0 := b0) (b1 := b1)
    (R := fun e V => e = .returned (.int .i64 (k + (mRow T).cntV xs)) ∧ Below w.heap.size w V) hN hd hres hA hl (Below.refl _ w) ?_ (fun V hV => ⟨rfl, hV⟩)
  · simp only [hK0] at h
    exact h
  · intro i a W hi S hD Q' kq
    have hxi : xs[i]? = some xs[i] := List.getElem?_eq_getElem hi
    obtain ⟨p, q, us, rfl, _, hp, hseg, hr⟩ := hat i _ hxi
    have hps := psum_next (f := T.cntF) hxi
    have hle := psum_le (f := T.cntF) xs (i + 1)
    have hcv : ((mRow T).cntV xs : Nat) = psum T.cntF xs xs.length := rfl
    rw [hcv] at hk
    refine hb a W p q xs.length c i xs[i] (k + (psum T.cntF xs i : Nat)) S hi (HdE.lat (T := T) (W := w) ⟨us, hp, hseg, hr, hful i _ hxi⟩ hD) (by omega) (by omega) Q' ?_
    intro a' W' S' hb'
    have e2 : k + ((psum T.cntF xs i : Nat) : Int) + (T.cntF xs[i] : Nat) = k + ((psum T.cntF xs (i + 1) : Nat) : Int) := by rw [hps]; omega
    rw [e2] at S'
    exact kq a' W' S' (hD.trans (hb'.mono hD.size))

/-- So much of what a struct holds is looked at. -/
structure Hv (w : World) (us : List Value) (k : Int) (N : Nat) (a : Act) (W : World) : Prop where
  s2 : a.eval (.tmp 2) = .pointer (some ⟨w.heap.size, 0, none⟩)
  hk : a.eval (.tmp 1) = .int .i64 k
  df : a.defers = []
  sz : a.tmps.size = N
  b0 : Box W w.heap.size us
  bl : Below w.heap.size w W
theorem hv_head {tA : TypeId} {v cv : Value} {fn : Func} {us : List Value} {k0 : Int} (hx : v.cells = us.toArray) (hN : fn.ntmps = N) (h3 : 4 < N) (k : ∀ a V, Hv w us k0 N a V → y.wp P Q a V) :
    Code.wp P ((Code.region id #[⟨some 2, .box tA (.tmp 0), t0, s0, f0, none⟩, ⟨some 4, .assign (.const cv), t1, s1, f1, none⟩] false).seq y) Q ⟨#[v, .int .i64 k0] ++ Array.replicate (fn.ntmps - (#[v, .int .i64 k0] : Array Value).size) undef, []⟩ w := by
  refine mv_head hx hN h3 ?_
  intro a V M hb
  refine k a V ⟨M.s2, ?_, M.df, M.sz, M.b0, hb⟩
  have e : k0 + ((mNil.cntV () : Nat) : Int) = k0 := by show k0 + ((0 : Nat) : Int) = k0; omega
  have h := M.hk
  rw [e] at h
  exact h
theorem hv_call {β : Type} {U : Mw β} {us vs pre post : List Value} {b : β} {k0 : Int} {tA tx : TypeId} {ats : Array TypeId} {f : FuncId} {d0 d1 d2 d3 i off n : Nat} (M : Hv w us k0 N a W) (hd : 4 < d0 ∧ d0 < d1 ∧ d1 < d2 ∧ d2 < d3 ∧ d3 < N) (hA : fldB P tA i off = true)
    (v : List Value → Value) (hn : U.cd.k = n) (hv : (v = vA ∧ Agg P tx n) ∨ (v = v1 ∧ Sca P tx ∧ n = 1)) (hf : Fn P f) (hC : HdF P U v f) (hu : us = pre ++ (vs ++ post)) (hp : pre.length = off) (hrep : U.cd.rep w 0 vs b) (hby : U.byv b k0)
    (h1 : 1 ≤ k0) (hk : k0 + (U.cntV b : Nat) ≤ 4611686018427387904) (k : ∀ a' V, Hv w us (k0 + (U.cntV b : Nat)) N a' V → y.wp P Q a' V) :
    Code.wp P ((Code.region id #[⟨some d0, .fieldAddr tA (.tmp 2) i, t0, s0, f0, none⟩, ⟨some d1, .load tx (.tmp d0), t1, s1, f1, none⟩, ⟨some d2, .move (.tmp 1), t2, s2, f2, none⟩, ⟨some d3, .call { callee := .value (.func f), args := #[.tmp d1, .tmp d2], argTypes := ats }, t3, s3, f3, none⟩, ⟨some 1, .assign (.tmp d3), t4, s4, f4, none⟩] false).seq y) Q a W := by
  obtain ⟨q0, q1, q2, q3, q4⟩ := hd
  have hz := M.sz
  have hrW : U.cd.rep W 0 vs b := U.cd.lat hrep M.bl
  have hln := (U.cd.len hrep).trans hn
  have hseg := Box.seg (hu ▸ M.b0) hp
  refine wp_seq (wp_region_list ?_)
  refine wpl_field M.s2 hA ?_
  refine wpl_loadV (put_eq (by omega)) (load_v hv hln hseg) ?_
  refine wpl_move ?_
  rw [put_ne (by omega), put_ne (by omega), M.hk]
  have ea : Act.eval (((a.put (some d0) (.pointer (some ⟨w.heap.size, off, none⟩))).put (some d1) (v vs)).put (some d2) (.int .i64 k0)) (.tmp d1) = v vs := (put_ne (by omega)).trans (put_eq (by rw [put_sz]; omega))
  have eb : Act.eval (((a.put (some d0) (.pointer (some ⟨w.heap.size, off, none⟩))).put (some d1) (v vs)).put (some d2) (.int .i64 k0)) (.tmp d2) = .int .i64 k0 := put_eq (by rw [put_sz, put_sz]; omega)
  refine wpl_call hf (R := fun e V => e = .returned (.int .i64 (k0 + U.cntV b)) ∧ Below W.heap.size W V) ?_ ?_
  · have hc := hC vs b W k0 hrW hby (by omega) hk
    simpa only [List.map_toArray, List.map_cons, List.map_nil, ea, eb] using hc
  rintro e V ⟨rfl, hb⟩
  refine ⟨_, rfl, ?_⟩
  refine wpl_assign (wpl_nil ?_)
  rw [put_eq (by rw [put_sz, put_sz, put_sz]; omega)]
  exact k _ V ⟨(put_ne (by omega)).trans ((put_ne (by omega)).trans ((put_ne (by omega)).trans ((put_ne (by omega)).trans ((put_ne (by omega)).trans M.s2)))), put_eq (by rw [put_sz, put_sz, put_sz, put_sz]; omega), put_df.trans (put_df.trans (put_df.trans (put_df.trans (put_df.trans M.df)))), by rw [put_sz, put_sz, put_sz, put_sz, put_sz]; exact hz, M.b0.later hb, M.bl.trans (hb.mono M.bl.size)⟩
theorem hv_chk {us : List Value} {k : Int} {e0 e1 : Nat} {ti tj : TypeId} (M : Hv w us k N a W) (hd : 4 < e0 ∧ e0 < e1 ∧ e1 < N) (h0 : 0 ≤ k) (kc : ∀ a', Hv w us k N a' W → Q .normal a' W) :
    Code.wp P ((Code.region id #[⟨some e0, .move (.tmp 1), t0, s0, f0, none⟩, ⟨some e1, .binOp .lss ti (.tmp e0) (.const (.int .i64 0)) tj, t1, s1, f1, none⟩] false).seq (Code.cond (.tmp e1) ((Code.region id' #[⟨some 4, .assign (.const (.int .i64 (-1))), t2, s2, f2, none⟩] false).seq Code.ret) Code.skip)) Q a W := by
  have hz := M.sz
  obtain ⟨q0, q1, q2⟩ := hd
  refine wp_seq (wp_region_list ?_)
  refine wpl_move ?_
  rw [M.hk]
  refine wpl_bin (u := .int .i64 k) (v := .int .i64 0) (put_eq (by omega)) rfl (run_lss W) (wpl_nil ?_)
  rw [decide_eq_false (by omega : ¬ k < 0)]
  exact wp_cond_false (put_eq (by rw [put_sz]; omega)) (wp_skip (kc _ ⟨(put_ne (by omega)).trans ((put_ne (by omega)).trans M.s2), (put_ne (by omega)).trans ((put_ne (by omega)).trans M.hk), put_df.trans (put_df.trans M.df), by rw [put_sz, put_sz]; exact hz, M.b0, M.bl⟩))
theorem hv_tail {fn : Func} {R : Ending → World → Prop} {us : List Value} {k : Int} {d0 : Nat} (M : Hv w us k N a W) (hd : 4 < d0 ∧ d0 < N) (hres : fn.results = #[.tmp 4]) (kc : Below w.heap.size w W → R (.returned (.int .i64 k)) W) :
    Code.wp P ((Code.region id #[⟨some d0, .move (.tmp 1), t0, s0, f0, none⟩, ⟨some 4, .assign (.tmp d0), t1, s1, f1, none⟩] false).seq Code.ret) (bodyPost P fn R) a W := by
  have hz := M.sz
  refine wp_seq (wp_region_list (wpl_move (wpl_assign (wpl_nil (wp_ret ?_)))))
  rw [M.hk, put_eq (by omega)]
  exact z_ret hres (put_eq (by rw [put_sz]; omega)) (put_df.trans (put_df.trans M.df)) (kc M.bl)
end

section
variable {P : Program} {a : Act} {W : World} {Q : Exit → Act → World → Prop} {α β : Type} {A : Mw α} {T : Mw β} {w : World} {F G : Nat → Prop} {N ci i n c id e0 e1 p : Nat} {o : Option Addr} {k k0 : Int} {x : α} {b : β} {pre todo : List Value} {tk tm t0 t1 t2 : TypeId} {s0 s1 s2 : String} {f0 f1 f2 : Array Edge}
theorem Me.wide (M : Me A w F p pre todo x k0 W) (h : ∀ q, F q → G q) : Me A w G p pre todo x k0 W := by
  obtain ⟨d, x', h1, h2, h3, h4, h5⟩ := M.ex
  exact ⟨⟨d, x', h1, h2, A.wid h3 h, h4, h5⟩, M.chg.mono fun q hq => hq.imp id (h q)⟩
theorem Me.un (M : Me (mTwo mNil T) w F p pre todo ((), b) k0 W) : Me T w F p pre todo b k0 W := by
  obtain ⟨d, ⟨_, b'⟩, h1, h2, ⟨us, ws, F1, F2, rfl, _, s2, _, g1, g2⟩, ⟨_, h4⟩, h5⟩ := M.ex
  obtain rfl : us = [] := g1
  refine ⟨⟨ws, b', T.len g2, h2, T.wid g2 s2, ?_, ?_⟩, M.chg⟩
  · have e : k0 + ((mNil.cntF () : Nat) : Int) = k0 := by show k0 + ((0 : Nat) : Int) = k0; omega
    rw [e] at h4
    exact h4
  · have h6 : 0 + T.cntF b' = 0 + T.cntF b := h5
    omega
theorem Mv.wide {us done : List Value} (M : Mv A w F us done x k0 N a W) (h : ∀ q, F q → G q) : Mv A w G us done x k0 N a W := by
  obtain ⟨x', h1, h2, h3⟩ := M.ex
  exact ⟨M.s2, M.hk, M.df, M.sz, M.b0, ⟨x', A.wid h1 h, h2, h3⟩, M.chg.mono h⟩
theorem Sl.nil (S : Sl N ci i o n c k a) : Sl N ci i o n c (k + ((mNil.cntF () : Nat) : Int)) a := by
  rw [show k + ((mNil.cntF () : Nat) : Int) = k by show k + ((0 : Nat) : Int) = k; omega]
  exact S
theorem Sl.two (S : Sl N ci i o n c (k0 + (A.cntF x : Nat) + (T.cntF b : Nat)) a) : Sl N ci i o n c (k0 + ((mTwo A T).cntF (x, b) : Nat)) a := by
  have e : k0 + ((mTwo A T).cntF (x, b) : Nat) = k0 + (A.cntF x : Nat) + (T.cntF b : Nat) := by
    show k0 + ((A.cntF x + T.cntF b : Nat) : Int) = _
    omega
  rw [e]
  exact S
theorem Sl.un (S : Sl N ci i o n c (k0 + ((mTwo mNil T).cntF ((), b) : Nat)) a) : Sl N ci i o n c (k0 + (T.cntF b : Nat)) a := by
  have e : k0 + ((mTwo mNil T).cntF ((), b) : Nat) = k0 + (T.cntF b : Nat) := by
    show k0 + ((0 + T.cntF b : Nat) : Int) = _
    omega
  rw [← e]
  exact S
/-- The count goes up by one. -/
theorem hd_nx (T : Mw β) (b : β) (S : Sl N ci i o n c (k0 + (A.cntF x : Nat)) a) (hT : T.cntF b = 1) (h0 : 1 ≤ k0) (hB : k0 + (A.cntF x : Nat) ≤ 4611686018427387904) (h1c : 1 < ci) (hd : ci < e0 ∧ e0 < e1 ∧ e1 < N)
    (kc : ∀ a', Sl N ci i o n c (k0 + ((mTwo A T).cntF (x, b) : Nat)) a' → Q .normal a' W) :
    Code.wp P (Code.region id #[⟨some e0, .move (.tmp 1), t0, s0, f0, none⟩, ⟨some e1, .binOp .add tk (.tmp e0) (.const (.int .i64 1)) tm, t1, s1, f1, none⟩, ⟨some 1, .assign (.tmp e1), t2, s2, f2, none⟩] false) Q a W :=
  me_inc S h1c hd (by omega) (by omega) (by show k0 + ((A.cntF x + T.cntF b : Nat) : Int) = _; omega) (fun a' S' _ => kc a' S')
theorem me_nx (M : Me (mTwo A T) w F p pre todo (x, b) k0 W) (S : Sl N ci i o n c (k0 + (A.cntF x : Nat)) a) (hT : T.cntF b = 1) (h0 : 1 ≤ k0) (hB : k0 + (A.cntF x : Nat) ≤ 4611686018427387904) (h1c : 1 < ci) (hd : ci < e0 ∧ e0 < e1 ∧ e1 < N)
    (kc : ∀ a', Sl N ci i o n c (k0 + ((mTwo A T).cntF (x, b) : Nat)) a' → Me (mTwo A T) w F p pre todo (x, b) k0 W → Q .normal a' W) :
    Code.wp P (Code.region id #[⟨some e0, .move (.tmp 1), t0, s0, f0, none⟩, ⟨some e1, .binOp .add tk (.tmp e0) (.const (.int .i64 1)) tm, t1, s1, f1, none⟩, ⟨some 1, .assign (.tmp e1), t2, s2, f2, none⟩] false) Q a W :=
  hd_nx T b S hT h0 hB h1c hd (fun a' S' => kc a' S' M)
end

section
variable {P : Program} {α : Type} {w : World} {N : Nat} {body : Code} {t0 t1 t2 t3 t4 t5 t6 t7 t8 t9 t10 : TypeId} {s0 s1 s2 s3 s4 s5 s6 s7 s8 s9 s10 : String} {f0 f1 f2 f3 f4 f5 f6 f7 f8 f9 f10 : Array Edge} {r0 r1 r2 r3 r4 b0 b1 : Nat}
/-- A row that is empty. -/
theorem row_none {fn : Func} {R : Ending → World → Prop} {o : Option Addr} {k : Int} {c e0 e1 e2 e3 e4 e5 e6 : Nat} {tA ti tj tk tm : TypeId} {cv : Value} (hN : fn.ntmps = N) (hd : 5 < e0 ∧ e0 < e1 ∧ e1 < e2 ∧ e2 < e3 ∧ e3 < e4 ∧ e4 < e5 ∧ e5 < e6 ∧ e6 < N) (hres : fn.results = #[.tmp 4]) (hA : (match P.underlying tA with | some (.slice _) => true | _ => false) = true) (hR : R (.returned (.int .i64 k)) w) :
    Code.wp P ((Code.region r0 #[⟨some 4, .assign (.const cv), t0, s0, f0, none⟩] false).seq
      (((Code.region r1 #[⟨some 5, .assign (.const (.int .i64 0)), t1, s1, f1, none⟩] false).seq (Code.block b0 (Code.loop
        (((Code.region r2 #[⟨some e0, .move (.tmp 5), t2, s2, f2, none⟩, ⟨some e1, .move (.tmp 0), t3, s3, f3, none⟩, ⟨some e2, .call { callee := .builtin .len, args := #[.tmp e1], argTypes := #[tA] }, t4, s4, f4, none⟩, ⟨some e3, .binOp .lss ti (.tmp e0) (.tmp e2) tj, t5, s5, f5, none⟩] false).seq (Code.cond (.tmp e3) Code.skip (Code.exit b0))).seq
          ((Code.block b1 body).seq (Code.region r3 #[⟨some e4, .move (.tmp 5), t6, s6, f6, none⟩, ⟨some e5, .binOp .add tk (.tmp e4) (.const (.int .i64 1)) tm, t7, s7, f7, none⟩, ⟨some 5, .assign (.tmp e5), t8, s8, f8, none⟩] false)))))).seq
      ((Code.region r4 #[⟨some e6, .move (.tmp 1), t9, s9, f9, none⟩, ⟨some 4, .assign (.tmp e6), t10, s10, f10, none⟩] false).seq Code.ret)))
      (bodyPost P fn R) ⟨#[.slice o 0 c, .int .i64 k] ++ Array.replicate (fn.ntmps - (#[.slice o 0 c, .int .i64 k] : Array Value).size) undef, []⟩ w :=
  row_cnt (K := fun _ => k) (D := fun _ V => V = w) hN hd hres hA (by omega) rfl (fun i a W hi => by omega) (fun V hV => by subst hV; exact hR)
end

theorem psum_len {α : Type} {f : α → Nat} (h : ∀ x, 1 ≤ f x) : ∀ xs : List α, xs.length ≤ psum f xs xs.length
  | [] => Nat.le_refl _
  | x :: t => by
      have h1 := psum_len h t
      have h2 := h x
      show t.length + 1 ≤ f x + psum f t t.length
      omega
theorem mRow_len {α : Type} {T : Mw α} {xs : List α} (h : ∀ x, 1 ≤ T.cntF x) (hk : psum T.cntF xs xs.length ≤ 4611686018427387904) : xs.length < 9223372036854775807 := by
  have := psum_len h xs
  omega

theorem bnd_in {α β : Type} {A : Mw α} {T : Mw β} {x : α} {b : β} {k0 : Int} {n : Nat} (hB : k0 + (n : Int) ≤ 4611686018427387904) (e : (mTwo A T).cntF (x, b) ≤ n) : k0 + (A.cntF x : Nat) + (T.cntF b : Nat) ≤ 4611686018427387904 := by
  have h : A.cntF x + T.cntF b ≤ n := e
  omega
theorem z_in {α : Type} {A : Mw α} {x : α} {k0 : Int} (h : 1 ≤ k0) : 0 ≤ k0 + (A.cntF x : Nat) := by omega
theorem one_in {α : Type} {A : Mw α} {x : α} {k0 : Int} (h : 1 ≤ k0) : 1 ≤ k0 + (A.cntF x : Nat) := by omega
theorem bnd0 {k0 : Int} {m n : Nat} (hB : k0 + (n : Int) ≤ 4611686018427387904) (e : m ≤ n) : k0 + (m : Int) ≤ 4611686018427387904 := by omega
theorem pos1 {l q c m l0 : Nat} (h : l = q + c) (e : c + m = l0) : l + m = q + l0 := by omega
theorem pos2 {l q c m l0 l1 : Nat} (h : l = q + c) (e : c + m = l0 + l1) : l + m = q + l0 + l1 := by omega
theorem pos3 {l q c m l0 l1 l2 : Nat} (h : l = q + c) (e : c + m = l0 + l1 + l2) : l + m = q + l0 + l1 + l2 := by omega
theorem pos4 {l q c m l0 l1 l2 l3 : Nat} (h : l = q + c) (e : c + m = l0 + l1 + l2 + l3) : l + m = q + l0 + l1 + l2 + l3 := by omega
theorem posn {l l' q c m c' : Nat} (h : l = q + c) (g : l' = l + m) (e : c' = c + m) : l' = q + c' := by omega

end Go.Proofs.Ytmfbmnpfgbenmaa
