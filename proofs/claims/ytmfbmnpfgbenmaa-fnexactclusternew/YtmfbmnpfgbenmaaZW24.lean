/-
  Functions that mark a row, or what a struct holds.
-/
import Derived.Test.YtmfbmnpfgbenmaaZW23
namespace Go.Proofs.Ytmfbmnpfgbenmaa
open Go.RowKit

section
variable {P : Program} {a : Act} {W : World} {Q : Exit → Act → World → Prop} {α : Type} {T : Mw α} {w : World} {F : Nat → Prop} {N : Nat} {y body : Code} {t0 t1 t2 t3 t4 t5 t6 t7 t8 t9 t10 t11 t12 t13 : TypeId} {s0 s1 s2 s3 s4 s5 s6 s7 s8 s9 s10 s11 s12 s13 : String} {f0 f1 f2 f3 f4 f5 f6 f7 f8 f9 f10 f11 f12 f13 : Array Edge} {r0 r1 r2 r3 r4 r5 b0 b1 id id' : Nat}

/-- The loop over a row, with a count. -/
theorem row_cnt {fn : Func} {R : Ending → World → Prop} {K : Nat → Int} {D : Nat → World → Prop} {o : Option Addr} {n c e0 e1 e2 e3 e4 e5 e6 : Nat} {tA ti tj tk tm : TypeId} {cv : Value} (hN : fn.ntmps = N) (hd : 5 < e0 ∧ e0 < e1 ∧ e1 < e2 ∧ e2 < e3 ∧ e3 < e4 ∧ e4 < e5 ∧ e5 < e6 ∧ e6 < N) (hres : fn.results = #[.tmp 4]) (hA : (match P.underlying tA with | some (.slice _) => true | _ => false) = true)
    (hn : n < 9223372036854775807) (h0 : D 0 w)
    (hb : ∀ i a W, i < n → Sl N 5 i o n c (K i) a → D i W → ∀ Q' : Exit → Act → World → Prop, (∀ a' W', Sl N 5 i o n c (K (i + 1)) a' → D (i + 1) W' → Q' .normal a' W') → body.wp P Q' a W)
    (k : ∀ V, D n V → R (.returned (.int .i64 (K n))) V) :
    Code.wp P ((Code.region r0 #[⟨some 4, .assign (.const cv), t0, s0, f0, none⟩] false).seq
      (((Code.region r1 #[⟨some 5, .assign (.const (.int .i64 0)), t1, s1, f1, none⟩] false).seq (Code.block b0 (Code.loop
        (((Code.region r2 #[⟨some e0, .move (.tmp 5), t2, s2, f2, none⟩, ⟨some e1, .move (.tmp 0), t3, s3, f3, none⟩, ⟨some e2, .call { callee := .builtin .len, args := #[.tmp e1], argTypes := #[tA] }, t4, s4, f4, none⟩, ⟨some e3, .binOp .lss ti (.tmp e0) (.tmp e2) tj, t5, s5, f5, none⟩] false).seq (Code.cond (.tmp e3) Code.skip (Code.exit b0))).seq
          ((Code.block b1 body).seq (Code.region r3 #[⟨some e4, .move (.tmp 5), t6, s6, f6, none⟩, ⟨some e5, .binOp .add tk (.tmp e4) (.const (.int .i64 1)) tm, t7, s7, f7, none⟩, ⟨some 5, .assign (.tmp e5), t8, s8, f8, none⟩] false)))))).seq
      ((Code.region r4 #[⟨some e6, .move (.tmp 1), t9, s9, f9, none⟩, ⟨some 4, .assign (.tmp e6), t10, s10, f10, none⟩] false).seq Code.ret)))
      (bodyPost P fn R) ⟨#[.slice o n c, .int .i64 (K 0)] ++ Array.replicate (fn.ntmps - (#[.slice o n c, .int .i64 (K 0)] : Array Value).size) undef, []⟩ w := by
  obtain ⟨q0, q1, q2, q3, q4, q5, q6, q7⟩ := hd
  have hsz : (⟨#[.slice o n c, .int .i64 (K 0)] ++ Array.replicate (fn.ntmps - (#[.slice o n c, .int .i64 (K 0)] : Array Value).size) undef, []⟩ : Act).tmps.size = N := by rw [frame2_z (by omega), hN]
  have hdf : (⟨#[.slice o n c, .int .i64 (K 0)] ++ Array.replicate (fn.ntmps - (#[.slice o n c, .int .i64 (K 0)] : Array Value).size) undef, []⟩ : Act).defers = [] := rfl
  have h00 : (⟨#[.slice o n c, .int .i64 (K 0)] ++ Array.replicate (fn.ntmps - (#[.slice o n c, .int .i64 (K 0)] : Array Value).size) undef, []⟩ : Act).eval (.tmp 0) = .slice o n c := frame2_0
  have h01 : (⟨#[.slice o n c, .int .i64 (K 0)] ++ Array.replicate (fn.ntmps - (#[.slice o n c, .int .i64 (K 0)] : Array Value).size) undef, []⟩ : Act).eval (.tmp 1) = .int .i64 (K 0) := frame2_1
  generalize (⟨#[.slice o n c, .int .i64 (K 0)] ++ Array.replicate (fn.ntmps - (#[.slice o n c, .int .i64 (K 0)] : Array Value).size) undef, []⟩ : Act) = a at *
  refine wp_seq (wp_region_list (wpl_assign (wpl_nil ?_)))
  refine row_loop (o := o) (n := n) (c := c) (ci := 5) (N := N) (X := fun i a => a.eval (.tmp 1) = .int .i64 (K i)) (D := D) (fun i a t v h ht => (put_ne (by omega)).trans h) (fun i a v h => (put_ne (by omega)).trans h) (by omega) ⟨q0, q1, q2, q3, q4, q5, by omega⟩ hA hn ((put_ne (by omega)).trans h01) h0 ((put_ne (by omega)).trans h00) (put_df.trans hdf) (by rw [put_sz]; exact hsz) ?_ pan_body ?_
  · intro i a W hi h Q' g1 _ _
    exact hb i a W hi ⟨h.hi, h.s, h.x, h.df, h.sz⟩ h.d Q' (fun a' W' S hD => g1 a' W' ⟨S.hi, S.s, S.df, S.sz, S.hk, hD⟩)
  · intro a W h
    have hz := h.sz
    have hx : a.eval (.tmp 1) = .int .i64 (K n) := h.x
    refine wp_seq (wp_region_list (wpl_move (wpl_assign (wpl_nil (wp_ret ?_)))))
    rw [hx, put_eq (by omega)]
    exact z_ret hres (put_eq (by rw [put_sz]; omega)) (put_df.trans (put_df.trans h.df)) (k W h.d)

/-- So many of a row are marked. -/
structure RoM (T : Mw α) (w : World) (F : Nat → Prop) (p : Nat) (az zs : List Value) (G : Nat → Nat → Prop) (xs : List α) (k : Int) (i : Nat) (W : World) : Prop where
  ex : ∃ (uss : List (List Value)) (xs' : List α), uss.length = xs.length ∧ xs'.length = xs.length ∧ Box W p (az ++ (uss.flatten ++ zs)) ∧ (∀ (j : Nat) (us : List Value) (x : α), uss[j]? = some us → xs'[j]? = some x → T.own W (G j) us x) ∧
    (∀ (j : Nat) (x x' : α), xs[j]? = some x → xs'[j]? = some x' → T.cntF x' = T.cntF x ∧ (j < i → T.ful x' (k + psum T.cntF xs j)) ∧ (i ≤ j → x' = x))
  chg : Chg F w W

theorem row_mark {fn : Func} {vs : List Value} {xs : List α} {k : Int} {e0 e1 e2 e3 e4 e5 e6 : Nat} {tA ti tj tk tm : TypeId} {cv : Value} (hN : fn.ntmps = N) (hd : 5 < e0 ∧ e0 < e1 ∧ e1 < e2 ∧ e2 < e3 ∧ e3 < e4 ∧ e4 < e5 ∧ e5 < e6 ∧ e6 < N) (hres : fn.results = #[.tmp 4]) (hA : (match P.underlying tA with | some (.slice _) => true | _ => false) = true)
    (hown : (mRow T).own w F vs xs) (h1 : 1 ≤ k) (hk : k + (mRow T).cntV xs ≤ 4611686018427387904)
    (hb : ∀ (a : Act) (W : World) (p o n c i : Nat) (pre us post : List Value) (x : α) (k : Int) (F : Nat → Prop), Sl N 5 i (some ⟨p, o, none⟩) n c k a → i < n → Box W p (pre ++ (us ++ post)) → pre.length = o + i * T.cd.k → T.own W F us x → ¬ F p → 1 ≤ k → k + T.cntF x ≤ 4611686018427387904 →
      ∀ Q' : Exit → Act → World → Prop, (∀ a' W', Sl N 5 i (some ⟨p, o, none⟩) n c (k + T.cntF x) a' → Me T W F p pre post x k W' → Q' .normal a' W') → body.wp P Q' a W) :
    Code.wp P ((Code.region r0 #[⟨some 4, .assign (.const cv), t0, s0, f0, none⟩] false).seq
      (((Code.region r1 #[⟨some 5, .assign (.const (.int .i64 0)), t1, s1, f1, none⟩] false).seq (Code.block b0 (Code.loop
        (((Code.region r2 #[⟨some e0, .move (.tmp 5), t2, s2, f2, none⟩, ⟨some e1, .move (.tmp 0), t3, s3, f3, none⟩, ⟨some e2, .call { callee := .builtin .len, args := #[.tmp e1], argTypes := #[tA] }, t4, s4, f4, none⟩, ⟨some e3, .binOp .lss ti (.tmp e0) (.tmp e2) tj, t5, s5, f5, none⟩] false).seq (Code.cond (.tmp e3) Code.skip (Code.exit b0))).seq
          ((Code.block b1 body).seq (Code.region r3 #[⟨some e4, .move (.tmp 5), t6, s6, f6, none⟩, ⟨some e5, .binOp .add tk (.tmp e4) (.const (.int .i64 1)) tm, t7, s7, f7, none⟩, ⟨some 5, .assign (.tmp e5), t8, s8, f8, none⟩] false)))))).seq
      ((Code.region r4 #[⟨some e6, .move (.tmp 1), t9, s9, f9, none⟩, ⟨some 4, .assign (.tmp e6), t10, s10, f10, none⟩] false).seq Code.ret)))
      (bodyPost P fn fun e V => e = .returned (.int .i64 (k + (mRow T).cntV xs)) ∧ Chg F w V ∧ ∃ xs', (mRow T).own V F vs xs' ∧ (mRow T).byv xs' k ∧ (mRow T).cntV xs' = (mRow T).cntV xs) ⟨#[v1 vs, .int .i64 k] ++ Array.replicate (fn.ntmps - (#[v1 vs, .int .i64 k] : Array Value).size) undef, []⟩ w := by
  have hK0 : k + ((psum T.cntF xs 0 : Nat) : Int) = k := by rw [psum_0]; omega
  rcases hown with ⟨rfl, o, c, rfl⟩ | ⟨p, o, c, az, zs, uss, G, rfl, hl, hp, ho, hu, hbx, he, hg, hdj⟩
  · have h := row_cnt (P := P) (w := w) (fn := fn) (N := N) (K := fun i => k + (psum T.cntF [] i : Nat)) (D := fun _ V => V = w) (o := o) (n := 0) (c := c) (body := body) (cv := cv) (tA := tA) (ti := ti) (tj := tj) (tk := tk) (tm := tm) (t0 := t0) (t1 := t1) (t2 := t2) (t3 := t3) (t4 := t4) (t5 := t5) (t6 := t6) (t7 := t7) (t8 := t8) (t9 := t9) (t10 := t10) (s0 := s0) (s1 := s1) (s2 := s2) (s3 := s3) (s4 := s4) (s5 := s5) (s6 := s6) (s7 := s7) (s8 := s8) (s9 := s9) (s10 := s10) (f0 := f0) (f1 := f1) (f2 := f2) (f3 := f3) (f4 := f4) (f5 := f5) (f6 := f6) (f7 := f7) (f8 := f8) (f9 := f9) (f10 := f10) (r0 := r0) (r1 := r1) (r2 := r2) (r3 := r3) (r4 := r4) (b0 := b0) (b1 := b1)
      (R := fun e V => e = .returned (.int .i64 (k + (mRow T).cntV [])) ∧ Chg F w V ∧ ∃ xs', (mRow T).own V F [.slice o 0 c] xs' ∧ (mRow T).byv xs' k ∧ (mRow T).cntV xs' = (mRow T).cntV []) hN hd hres hA (by omega) rfl (fun i a W hi => by omega) (fun V hV => by
        subst hV
        exact ⟨rfl, Chg.refl _ _, [], .inl ⟨rfl, o, c, rfl⟩, fun j x hx => by simp at hx, rfl⟩)
    simp only [hK0] at h
    exact h
  · have hn : xs.length < 9223372036854775807 := by omega
    have h := row_cnt (P := P) (w := w) (fn := fn) (N := N) (K := fun i => k + (psum T.cntF xs i : Nat)) (D := RoM T w F p az zs G xs k) (o := some ⟨p, o, none⟩) (n := xs.length) (c := c) (body := body) (cv := cv) (tA := tA) (ti := ti) (tj := tj) (tk := tk) (tm := tm) (t0 := t0) (t1 := t1) (t2 := t2) (t3 := t3) (t4 := t4) (t5 := t5) (t6 := t6) (t7 := t7) (t8 := t8) (t9 := t9) (t10 := t10) (s0 := s0) (s1 := s1) (s2 := s2) (s3 := s3) (s4 := s4) (s5 := s5) (s6 := s6) (s7 := s7) (s8 := s8) (s9 := s9) (s10 := s10) (f0 := f0) (f1 := f1) (f2 := f2) (f3 := f3) (f4 := f4) (f5 := f5) (f6 := f6) (f7 := f7) (f8 := f8) (f9 := f9) (f10 := f10) (r0 := r0) (r1 := r1) (r2 := r2) (r3 := r3) (r4 := r4) (b0 := b0) (b1 := b1)
      (R := fun e V => e = .returned (.int .i64 (k + (mRow T).cntV xs)) ∧ Chg F w V ∧ ∃ xs', (mRow T).own V F [.slice (some ⟨p, o, none⟩) xs.length c] xs' ∧ (mRow T).byv xs' k ∧ (mRow T).cntV xs' = (mRow T).cntV xs) hN hd hres hA hn
      ⟨⟨uss, xs, hu, rfl, hbx, he, fun j x x' h1 h2 => by
        have e := Option.some.inj (h1.symm.trans h2)
        subst e
        exact ⟨rfl, fun h => absurd h (Nat.not_lt_zero _), fun _ => rfl⟩⟩, Chg.refl _ _⟩ ?_ ?_
    · simp only [hK0] at h
      exact h
    · intro i a W hi S hD Q' kq
      obtain ⟨uss, xs', hu', hx', hb', he', hf'⟩ := hD.ex
      have hxi : xs[i]? = some xs[i] := List.getElem?_eq_getElem hi
      have hxi' : xs'[i]? = some xs'[i] := List.getElem?_eq_getElem (by omega)
      have hui : uss[i]? = some uss[i] := List.getElem?_eq_getElem (by omega)
      obtain ⟨c1, _, c3⟩ := hf' i _ _ hxi hxi'
      have e1 := c3 (Nat.le_refl _)
      have ho' := he' i _ _ hui hxi'
      rw [e1] at ho'
      have hlen : ∀ us ∈ uss.take i, us.length = T.cd.k := fun us hm => by
        obtain ⟨m, hm'⟩ := List.mem_iff_getElem?.1 (List.mem_of_mem_take hm)
        have hml := (List.getElem?_eq_some_iff.1 hm').1
        exact T.len (he' m us xs'[m] hm' (List.getElem?_eq_getElem (by omega)))
      have hps := psum_next (f := T.cntF) hxi
      have hle := psum_le (f := T.cntF) xs (i + 1)
      have hcv : ((mRow T).cntV xs : Nat) = psum T.cntF xs xs.length := rfl
      rw [hcv] at hk
      have hb2 := hb'
      rw [fl_at hui, List.append_assoc, List.append_assoc, ← List.append_assoc] at hb2
      refine hb a W p o xs.length c i (az ++ (uss.take i).flatten) uss[i] ((uss.drop (i + 1)).flatten ++ zs) xs[i] (k + (psum T.cntF xs i : Nat)) (G i) S hi hb2 ?_ ho' (fun h => (hg i p h).2 rfl) (by omega) (by omega) Q' ?_
      · rw [List.length_append, fl_len hlen, List.length_take, ho]
        congr 2
        omega
      intro a' W' S' M
      have e2 : k + ((psum T.cntF xs i : Nat) : Int) + (T.cntF xs[i] : Nat) = k + ((psum T.cntF xs (i + 1) : Nat) : Int) := by rw [hps]; omega
      rw [e2] at S'
      obtain ⟨dn, x2, m1, m2, m3, m4, m5⟩ := M.ex
      refine kq a' W' S' ⟨⟨uss.set i dn, xs'.set i x2, by rw [List.length_set, hu'], by rw [List.length_set, hx'], ?_, ?_, ?_⟩, hD.chg.trans (M.chg.mono fun q hq => hq.elim (fun e => by subst e; exact hp) (fun h => (hg i q h).1))⟩
      · have hd2 : (uss.set i dn)[i]? = some dn := by rw [List.getElem?_set_self (by omega)]
        rw [fl_at hd2, List.take_set_of_le (Nat.le_refl _), List.drop_set_of_lt (Nat.lt_succ_self _), List.append_assoc, List.append_assoc, ← List.append_assoc]
        exact m2
      · intro j us x hju hjx
        by_cases hij : i = j
        · subst hij
          rw [List.getElem?_set_self (by omega)] at hju hjx
          obtain rfl := Option.some.inj hju
          obtain rfl := Option.some.inj hjx
          exact m3
        · rw [List.getElem?_set_ne hij] at hju hjx
          exact T.chg (he' j us x hju hjx) M.chg (fun q hq e => e.elim (fun e => (hg j q hq).2 e) (fun e => hij (hdj i j q e hq)))
      · intro j x x' hjx hjx'
        by_cases hij : i = j
        · subst hij
          rw [List.getElem?_set_self (by omega)] at hjx'
          obtain rfl := Option.some.inj hjx'
          obtain rfl : xs[i] = x := Option.some.inj (hxi.symm.trans hjx)
          exact ⟨m5, fun _ => m4, fun h => absurd h (by omega)⟩
        · rw [List.getElem?_set_ne hij] at hjx'
          obtain ⟨d1, d2, d3⟩ := hf' j x x' hjx hjx'
          exact ⟨d1, fun h => d2 (by omega), fun h => d3 (by omega)⟩
    · intro V hD
      obtain ⟨uss, xs', hu', hx', hb', he', hf'⟩ := hD.ex
      have hc : ∀ i, psum T.cntF xs' i = psum T.cntF xs i := psum_eq hx' (fun j x y h1 h2 => (hf' j y x h2 h1).1)
      refine ⟨rfl, hD.chg, xs', .inr ⟨p, o, c, az, zs, uss, G, by rw [hx'], by omega, hp, ho, by omega, hb', he', hg, hdj⟩, ?_, ?_⟩
      · intro j x' hj
        have hjl := (List.getElem?_eq_some_iff.1 hj).1
        have := (hf' j _ x' (List.getElem?_eq_getElem (by omega)) hj).2.1 (by omega)
        rw [hc]
        exact this
      · show psum T.cntF xs' xs'.length = psum T.cntF xs xs.length
        rw [hc, hx']

/-- So much of what a struct holds is marked. -/
structure Mv (A : Mw α) (w : World) (F : Nat → Prop) (us done : List Value) (x : α) (k0 : Int) (N : Nat) (a : Act) (W : World) : Prop where
  s2 : a.eval (.tmp 2) = .pointer (some ⟨w.heap.size, 0, none⟩)
  hk : a.eval (.tmp 1) = .int .i64 (k0 + A.cntV x)
  df : a.defers = []
  sz : a.tmps.size = N
  b0 : Box W w.heap.size us
  ex : ∃ x', A.own W F done x' ∧ A.byv x' k0 ∧ A.cntV x' = A.cntV x
  chg : Chg F w W
theorem mv_head {tA : TypeId} {v cv : Value} {fn : Func} {us : List Value} {k0 : Int} (hx : v.cells = us.toArray) (hN : fn.ntmps = N) (h3 : 4 < N)
    (k : ∀ a V, Mv mNil w (fun _ => False) us [] () k0 N a V → Below w.heap.size w V → y.wp P Q a V) :
    Code.wp P ((Code.region id #[⟨some 2, .box tA (.tmp 0), t0, s0, f0, none⟩, ⟨some 4, .assign (.const cv), t1, s1, f1, none⟩] false).seq y) Q ⟨#[v, .int .i64 k0] ++ Array.replicate (fn.ntmps - (#[v, .int .i64 k0] : Array Value).size) undef, []⟩ w := by
  have hsz : (⟨#[v, .int .i64 k0] ++ Array.replicate (fn.ntmps - (#[v, .int .i64 k0] : Array Value).size) undef, []⟩ : Act).tmps.size = N := by rw [frame2_z (by omega), hN]
  have hdf : (⟨#[v, .int .i64 k0] ++ Array.replicate (fn.ntmps - (#[v, .int .i64 k0] : Array Value).size) undef, []⟩ : Act).defers = [] := rfl
  have h00 : (⟨#[v, .int .i64 k0] ++ Array.replicate (fn.ntmps - (#[v, .int .i64 k0] : Array Value).size) undef, []⟩ : Act).eval (.tmp 0) = v := frame2_0
  have h01 : (⟨#[v, .int .i64 k0] ++ Array.replicate (fn.ntmps - (#[v, .int .i64 k0] : Array Value).size) undef, []⟩ : Act).eval (.tmp 1) = .int .i64 k0 := frame2_1
  generalize (⟨#[v, .int .i64 k0] ++ Array.replicate (fn.ntmps - (#[v, .int .i64 k0] : Array Value).size) undef, []⟩ : Act) = a at *
  refine wp_seq (wp_region_list ?_)
  refine wpl_box (us := us) (by rw [h00]; exact hx) ?_
  intro V hV hb _
  refine wpl_assign (wpl_nil (k _ V ⟨(put_ne (by omega)).trans (put_eq (by omega)), ?_, put_df.trans (put_df.trans hdf), by rw [put_sz, put_sz]; exact hsz, hV, ⟨(), rfl, trivial, rfl⟩, Chg.of hb⟩ hb))
  have e : k0 + ((mNil.cntV () : Nat) : Int) = k0 := by show k0 + ((0 : Nat) : Int) = k0; omega
  rw [e]
  exact (put_ne (by omega)).trans ((put_ne (by omega)).trans h01)
theorem mv_skip {β : Type} {A : Mw α} {U : Mw β} {us done vs : List Value} {x : α} {b : β} {k0 : Int} (M : Mv A w F us done x k0 N a W) (hU : ∀ W F, U.own W F vs b) (hc : U.cntV b = 0) (hf : ∀ k, U.byv b k) : Mv (mTwo A U) w F us (done ++ vs) (x, b) k0 N a W := by
  obtain ⟨x', g1, g2, g3⟩ := M.ex
  refine ⟨M.s2, ?_, M.df, M.sz, M.b0, ⟨(x', b), ⟨done, vs, F, fun _ => False, rfl, fun _ h => h, fun _ h => h.elim, fun _ _ h => h, g1, hU _ _⟩, ⟨g2, hf _⟩, ?_⟩, M.chg⟩
  · have e : ((mTwo A U).cntV (x, b) : Nat) = A.cntV x := by show A.cntV x + U.cntV b = _; omega
    rw [e]
    exact M.hk
  · show A.cntV x' + U.cntV b = A.cntV x + U.cntV b
    rw [g3]
theorem wpl_loadV {ops : Array Oper} {rest : List Oper} {d : Option Tmp} {ty tx : TypeId} {ps : String} {af : Array Edge} {z : Operand} {p off : Nat} {u : Value} (hx : a.eval z = .pointer (some ⟨p, off, none⟩)) (hl : (loadVar tx ⟨p, off, none⟩).run P W = .ok u W)
    (h : wpList P ops Q rest (a.put d u) W) : wpList P ops Q (⟨d, .load tx z, ty, ps, af, none⟩ :: rest) a W := by
  refine wpList_plain rfl fun _ hK => ?_
  unfold Oper.wp execOp
  simp only [hx, Instr.loadAt, Instr.sureAddr, Sem.run_bind, Sem.run_pure, Result.andThen_ok, hl]
  exact hK _ _ h
theorem load_v {tx : TypeId} {p off n : Nat} {vs : List Value} {v : List Value → Value} (hv : (v = vA ∧ Agg P tx n) ∨ (v = v1 ∧ Sca P tx ∧ n = 1)) (hn : vs.length = n) (hs : Seg W p off vs) : (loadVar tx ⟨p, off, none⟩).run P W = .ok (v vs) W := by
  rcases hv with ⟨rfl, hag⟩ | ⟨rfl, hsc, h1⟩
  · rw [← hn] at hag
    exact run_loadE W hag hs
  · subst h1
    cases vs with
    | nil => cases hn
    | cons u t =>
      have : t = [] := List.length_eq_zero_iff.1 (by simpa using hn)
      subst this
      exact run_loadS W hsc hs.one
theorem mv_call {β : Type} {A : Mw α} {U : Mw β} {F1 F2 : Nat → Prop} {us done vs pre post : List Value} {x : α} {b : β} {k0 : Int} {tA tx : TypeId} {ats : Array TypeId} {f : FuncId} {d0 d1 d2 d3 i off n : Nat} (M : Mv A w F1 us done x k0 N a W) (hd : 4 < d0 ∧ d0 < d1 ∧ d1 < d2 ∧ d2 < d3 ∧ d3 < N) (hA : fldB P tA i off = true)
    (v : List Value → Value) (hn : U.cd.k = n) (hv : (v = vA ∧ Agg P tx n) ∨ (v = v1 ∧ Sca P tx ∧ n = 1)) (hf : Fn P f) (hC : MkF P U v f) (hu : us = pre ++ (vs ++ post)) (hp : pre.length = off) (hown : U.own w F2 vs b) (c1 : ∀ q, F1 q → F q) (c2 : ∀ q, F2 q → F q) (dj : ∀ q, F1 q → ¬ F2 q) (nw : ∀ q, F q → q < w.heap.size)
    (h1 : 1 ≤ k0) (hk : k0 + (A.cntV x : Nat) + (U.cntV b : Nat) ≤ 4611686018427387904)
    (k : ∀ a' V, Mv (mTwo A U) w F us (done ++ vs) (x, b) k0 N a' V → y.wp P Q a' V) :
    Code.wp P ((Code.region id #[⟨some d0, .fieldAddr tA (.tmp 2) i, t0, s0, f0, none⟩, ⟨some d1, .load tx (.tmp d0), t1, s1, f1, none⟩, ⟨some d2, .move (.tmp 1), t2, s2, f2, none⟩, ⟨some d3, .call { callee := .value (.func f), args := #[.tmp d1, .tmp d2], argTypes := ats }, t3, s3, f3, none⟩, ⟨some 1, .assign (.tmp d3), t4, s4, f4, none⟩] false).seq y) Q a W := by
  obtain ⟨q0, q1, q2, q3, q4⟩ := hd
  have hz := M.sz
  have hownW : U.own W F2 vs b := U.chg hown M.chg (fun q h2 h1 => dj q h1 h2)
  have hln := (U.len hown).trans hn
  subst hu
  have hseg := Box.seg M.b0 hp
  refine wp_seq (wp_region_list ?_)
  refine wpl_field M.s2 hA ?_
  refine wpl_loadV (put_eq (by omega)) (load_v hv hln hseg) ?_
  refine wpl_move ?_
  rw [put_ne (by omega), put_ne (by omega), M.hk]
  have ea : Act.eval (((a.put (some d0) (.pointer (some ⟨w.heap.size, off, none⟩))).put (some d1) (v vs)).put (some d2) (.int .i64 (k0 + A.cntV x))) (.tmp d1) = v vs := (put_ne (by omega)).trans (put_eq (by rw [put_sz]; omega))
  have eb : Act.eval (((a.put (some d0) (.pointer (some ⟨w.heap.size, off, none⟩))).put (some d1) (v vs)).put (some d2) (.int .i64 (k0 + A.cntV x))) (.tmp d2) = .int .i64 (k0 + A.cntV x) := put_eq (by rw [put_sz, put_sz]; omega)
  refine wpl_call hf (R := fun e V => e = .returned (.int .i64 (k0 + A.cntV x + U.cntV b)) ∧ Chg F2 W V ∧ ∃ b', U.own V F2 vs b' ∧ U.byv b' (k0 + A.cntV x) ∧ U.cntV b' = U.cntV b) ?_ ?_
  · have hc := hC vs b W F2 (k0 + A.cntV x) hownW (by omega) hk
    simpa only [List.map_toArray, List.map_cons, List.map_nil, ea, eb] using hc
  rintro e V ⟨rfl, hchg, b', g1, g2, g3⟩
  refine ⟨_, rfl, ?_⟩
  refine wpl_assign (wpl_nil ?_)
  rw [put_eq (by rw [put_sz, put_sz, put_sz]; omega)]
  obtain ⟨x', m1, m2, m3⟩ := M.ex
  have e2 : k0 + ((mTwo A U).cntV (x, b) : Nat) = k0 + A.cntV x + U.cntV b := by
    show k0 + ((A.cntV x + U.cntV b : Nat) : Int) = _
    omega
  refine k _ V ⟨(put_ne (by omega)).trans ((put_ne (by omega)).trans ((put_ne (by omega)).trans ((put_ne (by omega)).trans ((put_ne (by omega)).trans M.s2)))), ?_, put_df.trans (put_df.trans (put_df.trans (put_df.trans (put_df.trans M.df)))), by rw [put_sz, put_sz, put_sz, put_sz, put_sz]; exact hz, M.b0.chg hchg (fun h => Nat.lt_irrefl _ (nw _ (c2 _ h))), ?_, (M.chg.mono c1).trans (hchg.mono c2)⟩
  · rw [e2]
    exact put_eq (by rw [put_sz, put_sz, put_sz, put_sz]; omega)
  · refine ⟨(x', b'), ⟨done, vs, F1, F2, rfl, c1, c2, dj, A.chg m1 hchg dj, g1⟩, ⟨m2, by rw [m3]; exact g2⟩, ?_⟩
    show A.cntV x' + U.cntV b' = A.cntV x + U.cntV b
    rw [m3, g3]
theorem mv_tail {A : Mw α} {fn : Func} {R : Ending → World → Prop} {us done : List Value} {x : α} {k0 : Int} {d0 : Nat} (M : Mv A w F us done x k0 N a W) (hd : 4 < d0 ∧ d0 < N) (hres : fn.results = #[.tmp 4])
    (k : (∃ x', A.own W F done x' ∧ A.byv x' k0 ∧ A.cntV x' = A.cntV x) → Chg F w W → R (.returned (.int .i64 (k0 + A.cntV x))) W) :
    Code.wp P ((Code.region id #[⟨some d0, .move (.tmp 1), t0, s0, f0, none⟩, ⟨some 4, .assign (.tmp d0), t1, s1, f1, none⟩] false).seq Code.ret) (bodyPost P fn R) a W := by
  have hz := M.sz
  refine wp_seq (wp_region_list (wpl_move (wpl_assign (wpl_nil (wp_ret ?_)))))
  rw [M.hk, put_eq (by omega)]
  exact z_ret hres (put_eq (by rw [put_sz]; omega)) (put_df.trans (put_df.trans M.df)) (k M.ex M.chg)
end

end Go.Proofs.Ytmfbmnpfgbenmaa
