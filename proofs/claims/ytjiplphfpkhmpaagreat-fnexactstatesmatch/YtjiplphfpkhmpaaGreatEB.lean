/-
  Functions that copy an array of numbers, or look at two.
-/
import Derived.Test.YtjiplphfpkhmpaaGreatEA
namespace Go.Proofs.YtjiplphfpkhmpaaGreat
open Go.RowKit

section
variable {P : Program} {a : Act} {W : World} {Q : Exit → Act → World → Prop} {y body : Code} {w : World} {N n ci : Nat} {X : Act → Prop} {D : Nat → World → Prop} {t0 t1 t2 t3 t4 t5 t6 t7 t8 t9 : TypeId} {s0 s1 s2 s3 s4 s5 s6 s7 s8 s9 : String} {f0 f1 f2 f3 f4 f5 f6 f7 f8 f9 : Array Edge} {r2 r3 r4 r5 r6 b0 b1 : Nat}

structure InvA (n ci N : Nat) (X : Act → Prop) (D : Nat → World → Prop) (i : Nat) (a : Act) (W : World) : Prop where
  hi : a.eval (.tmp ci) = .int .i64 i
  df : a.defers = []
  sz : a.tmps.size = N
  x : X a
  d : D i W
structure MidA (n ci N : Nat) (X : Act → Prop) (D : Nat → World → Prop) (i : Nat) (a : Act) (W : World) : Prop where
  hi : a.eval (.tmp ci) = .int .i64 i
  df : a.defers = []
  sz : a.tmps.size = N
  x : X a
  d : D (i + 1) W
theorem InvA.put {i t : Nat} {v : Value} (h : InvA n ci N X D i a W) (hX : ∀ a t v, X a → ci < t → X (a.put (some t) v)) (ht : ci < t) : InvA n ci N X D i (a.put (some t) v) W :=
  ⟨(put_ne (by omega)).trans h.hi, put_df.trans h.df, put_sz.trans h.sz, hX a t v h.x ht, h.d⟩
theorem wpl_indexA {ops : Array Oper} {rest : List Oper} {d : Option Tmp} {ty : TypeId} {ps : String} {af : Array Edge} {x z : Operand} {t e : TypeId} {p n i : Nat} (ht : P.underlying t = some (.array n e)) (hk : (P.info? e).map (·.size) = some 1) (hx : a.eval x = .pointer (some ⟨p, 0, none⟩)) (hz : a.eval z = .int .i64 i) (hi : i < n)
    (h : wpList P ops Q rest (a.put d (.pointer (some ⟨p, i, none⟩))) W) : wpList P ops Q (⟨d, .indexAddr t x z, ty, ps, af, none⟩ :: rest) a W := by
  refine wpl_val (v := .pointer (some ⟨p, i, none⟩)) (w' := W) ?_ h
  cases hq : P.info? e with
  | none => simp [hq] at hk
  | some j =>
    have hz' : j.size = 1 := by simpa [hq] using hk
    simp [execOp, Instr.indexAt, asIntOf, Sem.run_bind, run_underlying ht, hx, hz, Instr.sureAddr, sizeOf, typeInfo, hq, hz', add_E, hi]
theorem run_indexA {x z : Operand} {t e : TypeId} {p n i : Nat} {d : Option Tmp} {ty : TypeId} {ps : String} {af : Array Edge} (ht : P.underlying t = some (.array n e)) (hk : (P.info? e).map (·.size) = some 1) (hx : a.eval x = .pointer (some ⟨p, 0, none⟩)) (hz : a.eval z = .int .i64 i) (hi : i < n) (V : World) :
    (execOp a.eval (⟨d, .indexAddr t x z, ty, ps, af, none⟩ : Oper)).run P V = .ok (.value (.pointer (some ⟨p, i, none⟩))) V := by
  cases hq : P.info? e with
  | none => simp [hq] at hk
  | some j =>
    have hz' : j.size = 1 := by simpa [hq] using hk
    simp [execOp, Instr.indexAt, asIntOf, Sem.run_bind, run_underlying ht, hx, hz, Instr.sureAddr, sizeOf, typeInfo, hq, hz', add_E, hi]

theorem arr_loop {ti tj tk tm : TypeId} (hX : ∀ a t v, X a → ci < t → X (a.put (some t) v)) (hXc : ∀ a v, X a → X (a.put (some ci) v)) {t8 t11 t12 t13 : Nat} (hd : ci < t8 ∧ t8 < t11 ∧ t11 < t12 ∧ t12 < t13 ∧ t13 < N)
    (hn : n < 9223372036854775807) (h0 : X a) (hD : D 0 W) (hdf : a.defers = []) (hsz : a.tmps.size = N)
    (hb : ∀ i a W, i < n → InvA n ci N X D i a W → ∀ Q' : Exit → Act → World → Prop, (∀ a' W', MidA n ci N X D i a' W' → Q' .normal a' W') → (∀ c a d v w, Q' (.panic c) (a.put d v) w → Q' (.panic c) a w) → body.wp P Q' a W) (hpn : ∀ c a d v w, Q (.panic c) (a.put d v) w → Q (.panic c) a w)
    (k : ∀ a W, InvA n ci N X D n a W → y.wp P Q a W) :
    Code.wp P (((Code.region r2 #[⟨some ci, .assign (.const (.int .i64 0)), t0, s0, f0, none⟩] false).seq (Code.block b0 (Code.loop
      (((Code.region r3 #[⟨some t8, .move (.tmp ci), t1, s1, f1, none⟩, ⟨some t11, .binOp .lss ti (.tmp t8) (.const (.int .i64 n)) tj, t4, s4, f4, none⟩] false).seq (Code.cond (.tmp t11) Code.skip (Code.exit b0))).seq
        ((Code.block b1 body).seq (Code.region r4 #[⟨some t12, .move (.tmp ci), t5, s5, f5, none⟩, ⟨some t13, .binOp .add tk (.tmp t12) (.const (.int .i64 1)) tm, t6, s6, f6, none⟩, ⟨some ci, .assign (.tmp t13), t7, s7, f7, none⟩] false)))))).seq y) Q a W := by
  obtain ⟨k0, k1, k4, k5, k6⟩ := hd
  refine wp_seq (wp_seq (wp_region_list (wpl_assign (wpl_nil (wp_block ?_)))))
  refine wp_loop (fun a W => ∃ i, i ≤ n ∧ InvA n ci N X D i a W) (fun a _ => n - (match a.eval (.tmp ci) with | .int _ z => z.toNat | _ => 0)) ⟨0, Nat.zero_le _, put_eq (by omega), put_df.trans hdf, put_sz.trans hsz, hXc _ _ h0, hD⟩ ?_
  rintro a W ⟨i, hin, h⟩
  have hz := h.sz
  refine wp_seq (wp_seq (wp_region_list ?_))
  refine wpl_move ?_
  rw [h.hi]
  have g := h.put (v := .int .i64 i) hX k0
  refine wpl_bin (u := .int .i64 i) (v := .int .i64 n) (put_eq (by omega)) rfl (run_lss W) (wpl_nil ?_)
  have g4 := g.put (v := .bool (decide ((i : Int) < (n : Int)))) hX (t := t11) (by omega)
  by_cases hlt : i < n
  · rw [decide_eq_true (by omega : (i : Int) < (n : Int))] at g4 ⊢
    refine wp_cond_true (put_eq (by rw [put_sz]; omega)) (wp_skip ?_)
    refine wp_seq (wp_block ?_)
    refine hb i _ W hlt g4 _ ?_ (fun c a d v w hq => hpn c a d v w hq)
    intro a' W' m
    have mz := m.sz
    refine wp_region_list ?_
    refine wpl_move ?_
    rw [m.hi]
    refine wpl_bin (u := .int .i64 i) (v := .int .i64 1) (put_eq (by omega)) rfl (run_inc W' (by omega) (by omega)) ?_
    refine wpl_assign (wpl_nil ?_)
    rw [put_eq (by rw [put_sz]; omega)]
    refine ⟨⟨i + 1, hlt, ⟨put_eq (by rw [put_sz, put_sz]; omega), put_df.trans (put_df.trans (put_df.trans m.df)), put_sz.trans (put_sz.trans (put_sz.trans mz)), hXc _ _ (hX _ _ _ (hX _ _ _ m.x (by omega)) (by omega)), m.d⟩⟩, ?_⟩
    have e1 : (((a'.put (some t12) (.int .i64 i)).put (some t13) (.int .i64 ((i : Int) + 1))).put (some ci) (.int .i64 ((i : Int) + 1))).eval (.tmp ci) = .int .i64 ((i : Int) + 1) := put_eq (by rw [put_sz, put_sz]; omega)
    simp only [e1]
    show n - ((i : Int) + 1).toNat < n - (i : Int).toNat
    omega
  · have he : i = n := by omega
    subst he
    rw [decide_eq_false (by omega : ¬ (i : Int) < (i : Int))] at g4 ⊢
    refine wp_cond_false (put_eq (by rw [put_sz]; omega)) (wp_exit ?_)
    simp only [Exit.then, Exit.inBlock, if_true]
    exact k _ W g4

/-- So much of an array is copied. -/
structure ArT (w : World) (us zs : List Value) (i : Nat) (W : World) : Prop where
  b0 : Box W w.heap.size us
  b1 : Box W (w.heap.size + 1) zs
  b2 : Box W (w.heap.size + 2) (us.take i ++ zs.drop i)
  bl : Below w.heap.size w W
abbrev SlA (p : Nat) (a : Act) : Prop := a.eval (.tmp 1) = .pointer (some ⟨p, 0, none⟩) ∧ a.eval (.tmp 2) = .pointer (some ⟨p + 1, 0, none⟩) ∧ a.eval (.tmp 3) = .pointer (some ⟨p + 2, 0, none⟩)
theorem body_arT {tA eA tO eO tx : TypeId} {us zs : List Value} (hN : 13 < N) (hA : P.underlying tA = some (.array n eA)) (hkA : (P.info? eA).map (·.size) = some 1) (hO : P.underlying tO = some (.array n eO)) (hkO : (P.info? eO).map (·.size) = some 1) (htx : Sca P tx) (hu : us.length = n) (hz : zs.length = n) (h1 : One us)
    (i : Nat) (a : Act) (W : World) (hi : i < n) (h : InvA n 4 N (SlA w.heap.size) (ArT w us zs) i a W) (Q' : Exit → Act → World → Prop) (hQ : ∀ a' W', MidA n 4 N (SlA w.heap.size) (ArT w us zs) i a' W' → Q' .normal a' W') :
    Code.wp P (Code.region r5 #[⟨some 9, .move (.tmp 4), t0, s0, f0, none⟩, ⟨some 10, .move (.tmp 4), t1, s1, f1, none⟩, ⟨some 11, .indexAddr tA (.tmp 1) (.tmp 10), t2, s2, f2, none⟩, ⟨some 12, .load tx (.tmp 11), t3, s3, f3, none⟩, ⟨some 13, .indexAddr tO (.tmp 3) (.tmp 9), t4, s4, f4, none⟩, ⟨none, .store tx (.tmp 13) (.tmp 12), t5, s5, f5, none⟩] false) Q' a W := by
  have hsz := h.sz
  obtain ⟨x1, x2, x3⟩ := h.x
  obtain ⟨v, hv⟩ : ∃ v, us[i]? = some v := ⟨_, List.getElem?_eq_getElem (by omega)⟩
  have hv1 := h1 v (List.mem_of_getElem? hv)
  have eu : us = us.take i ++ ([v] ++ us.drop (i + 1)) := by
    conv => lhs; rw [← List.take_append_drop i us]
    rw [List.drop_eq_getElem_cons (by omega), (List.getElem?_eq_some_iff.1 hv).2]
    rfl
  have ez : zs.drop i = [zs[i]'(by omega)] ++ zs.drop (i + 1) := List.drop_eq_getElem_cons (by omega)
  have lt : (us.take i).length = i := by rw [List.length_take]; omega
  have b0 := h.d.b0
  rw [eu] at b0
  have b2 := h.d.b2
  rw [ez] at b2
  have hlt := h.d.b2.lt
  refine wp_region_list ?_
  refine wpl_move ?_
  rw [h.hi]
  refine wpl_move ?_
  rw [put_ne (by omega), h.hi]
  refine wpl_indexA hA hkA ((put_ne (by omega)).trans ((put_ne (by omega)).trans x1)) (put_eq (by rw [put_sz]; omega)) hi ?_
  refine wpl_loadS rfl tx (.tmp 11) rfl (put_eq (by rw [put_sz, put_sz]; omega)) v htx (Box.seg b0 lt).one ?_
  refine wpl_indexA hO hkO ((put_ne (by omega)).trans ((put_ne (by omega)).trans ((put_ne (by omega)).trans ((put_ne (by omega)).trans x3)))) ((put_ne (by omega)).trans ((put_ne (by omega)).trans ((put_ne (by omega)).trans (put_eq (by omega))))) hi ?_
  refine wpl_store rfl tx (.tmp 13) (.tmp 12) rfl (put_eq (by rw [put_sz, put_sz, put_sz, put_sz]; omega)) ((put_ne (by omega)).trans (put_eq (by rw [put_sz, put_sz, put_sz]; omega))) [v] (us.take i) _ (zs.drop (i + 1)) (by cases v <;> first | rfl | cases hv1) (one1 hv1) htx.2 rfl b2 lt rfl ?_
  intro V hV hg hs
  refine wpl_nil (hQ _ V ⟨?_, ?_, ?_, ⟨?_, ?_, ?_⟩, ⟨h.d.b0.other hg (by omega), h.d.b1.other hg (by omega), ?_, h.d.bl.grown hg h.d.bl.size (fun q hq => by have := Option.some.inj hq; omega)⟩⟩)
  · exact ev0.trans ((put_ne (by omega)).trans ((put_ne (by omega)).trans ((put_ne (by omega)).trans ((put_ne (by omega)).trans ((put_ne (by omega)).trans h.hi)))))
  · exact put_df.trans (put_df.trans (put_df.trans (put_df.trans (put_df.trans (put_df.trans h.df)))))
  · exact put_sz.trans (put_sz.trans (put_sz.trans (put_sz.trans (put_sz.trans (put_sz.trans hsz)))))
  · exact ev0.trans ((put_ne (by omega)).trans ((put_ne (by omega)).trans ((put_ne (by omega)).trans ((put_ne (by omega)).trans ((put_ne (by omega)).trans x1)))))
  · exact ev0.trans ((put_ne (by omega)).trans ((put_ne (by omega)).trans ((put_ne (by omega)).trans ((put_ne (by omega)).trans ((put_ne (by omega)).trans x2)))))
  · exact ev0.trans ((put_ne (by omega)).trans ((put_ne (by omega)).trans ((put_ne (by omega)).trans ((put_ne (by omega)).trans ((put_ne (by omega)).trans x3)))))
  · rw [List.take_add_one, hv, List.append_assoc]; exact hV

theorem arr_to {tA eA tO eO tx ti tj tk tm : TypeId} {z v : Value} {us zs : List Value} {fn : Func} {r0 r1 : Nat} {t10 t11 t12 t13 t14 t15 t16 : TypeId} {s10 s11 s12 s13 s14 s15 s16 : String} {f10 f11 f12 f13 f14 f15 f16 : Array Edge} (hx : v.cells = us.toArray) (hN : fn.ntmps = 15) (hz : (P.info? tO).map (·.zero) = some (some z)) (hc : z.cells = zs.toArray)
    (hA : P.underlying tA = some (.array n eA)) (hkA : (P.info? eA).map (·.size) = some 1) (hO : P.underlying tO = some (.array n eO)) (hkO : (P.info? eO).map (·.size) = some 1) (htx : Sca P tx) (hag : Agg P tO n) (hu : us.length = n) (hzl : zs.length = n) (h1 : One us) (hn : n < 1000) (hres : fn.results = #[.cell 2 tO]) :
    Code.wp P ((Code.region r0 #[⟨some 1, .box tA (.tmp 0), t0, s0, f0, none⟩, ⟨some 2, .alloc tO, t1, s1, f1, none⟩] false).seq ((Code.region r1 #[⟨some 3, .alloc tO, t2, s2, f2, none⟩] false).seq
      (((Code.region r2 #[⟨some 4, .assign (.const (.int .i64 0)), t3, s3, f3, none⟩] false).seq (Code.block b0 (Code.loop
      (((Code.region r3 #[⟨some 5, .move (.tmp 4), t4, s4, f4, none⟩, ⟨some 6, .binOp .lss ti (.tmp 5) (.const (.int .i64 n)) tj, t5, s5, f5, none⟩] false).seq (Code.cond (.tmp 6) Code.skip (Code.exit b0))).seq
        ((Code.block b1 (Code.region r5 #[⟨some 9, .move (.tmp 4), t6, s6, f6, none⟩, ⟨some 10, .move (.tmp 4), t7, s7, f7, none⟩, ⟨some 11, .indexAddr tA (.tmp 1) (.tmp 10), t8, s8, f8, none⟩, ⟨some 12, .load tx (.tmp 11), t9, s9, f9, none⟩, ⟨some 13, .indexAddr tO (.tmp 3) (.tmp 9), t10, s10, f10, none⟩, ⟨none, .store tx (.tmp 13) (.tmp 12), t11, s11, f11, none⟩] false)).seq
          (Code.region r4 #[⟨some 7, .move (.tmp 4), t12, s12, f12, none⟩, ⟨some 8, .binOp .add tk (.tmp 7) (.const (.int .i64 1)) tm, t13, s13, f13, none⟩, ⟨some 4, .assign (.tmp 8), t14, s14, f14, none⟩] false)))))).seq
      ((Code.region r6 #[⟨some 14, .load tO (.tmp 3), t15, s15, f15, none⟩, ⟨none, .store tO (.tmp 2) (.tmp 14), t16, s16, f16, none⟩] false).seq Code.ret))))
      (bodyPost P fn fun e w' => e = .returned (.agg us.toArray) ∧ Below w.heap.size w w') ⟨#[v] ++ Array.replicate (fn.ntmps - (#[v] : Array Value).size) undef, []⟩ w := by
  have hsz : (⟨#[v] ++ Array.replicate (fn.ntmps - (#[v] : Array Value).size) undef, []⟩ : Act).tmps.size = 15 := by
    rw [Array.size_append, Array.size_replicate]
    show 1 + (fn.ntmps - 1) = 15
    omega
  refine reg_head (N := 15) (us := us) (zs := zs) (by rw [frame_0]; exact hx) (by omega) hsz rfl hz hc ?_
  intro a V hs b0 b1 b2 bl hV
  refine arr_loop (n := n) (ci := 4) (N := 15) (X := SlA w.heap.size) (D := ArT w us zs) (fun a t v h ht => ⟨(put_ne (by omega)).trans h.1, (put_ne (by omega)).trans h.2.1, (put_ne (by omega)).trans h.2.2⟩) (fun a v h => ⟨(put_ne (by omega)).trans h.1, (put_ne (by omega)).trans h.2.1, (put_ne (by omega)).trans h.2.2⟩) (by omega) (by omega) ⟨hs.s1, hs.s2, hs.s3⟩ ⟨b0, b1, by simpa using b2, bl⟩ hs.df hs.sz
    (fun i a W hi h Q' g1 _ => body_arT (by omega) hA hkA hO hkO htx hu hzl h1 i a W hi h Q' g1) pan_body ?_
  intro a W h
  have b := h.d.b2
  rw [List.take_of_length_le (by omega), List.drop_of_length_le (by omega), List.append_nil] at b
  obtain ⟨x1, x2, x3⟩ := h.x
  refine reg_tail (p0 := w.heap.size) (p1 := w.heap.size + 1) (p2 := w.heap.size + 2) (us := us) (zs := zs) (n := n) ⟨x1, x2, x3, h.df, h.sz⟩ (by omega) hag hu h1 hzl b h.d.b1 hres ?_
  intro U hg _
  exact ⟨rfl, h.d.bl.grown hg h.d.bl.size (fun q hq => by have := Option.some.inj hq; omega)⟩

theorem body_arQ {tA eA tx tb tc : TypeId} {c1 : Code} {us : List Value} (hm : P.follows .mixedOrders = true) (hN : 16 < N) (hA : P.underlying tA = some (.array n eA)) (hkA : (P.info? eA).map (·.size) = some 1) (htx : Sca P tx) (hu : us.length = n) (hne : ∀ v ∈ us, NeqS P tb v)
    (i : Nat) (a : Act) (W : World) (hi : i < n) (h : InvA n 5 N (fun a => a.eval (.tmp 2) = .pointer (some ⟨w.heap.size, 0, none⟩) ∧ a.eval (.tmp 3) = .pointer (some ⟨w.heap.size + 1, 0, none⟩)) (fun _ W => Box W w.heap.size us ∧ Box W (w.heap.size + 1) us ∧ Below w.heap.size w W) i a W) (Q' : Exit → Act → World → Prop) (hQ : ∀ a' W', MidA n 5 N (fun a => a.eval (.tmp 2) = .pointer (some ⟨w.heap.size, 0, none⟩) ∧ a.eval (.tmp 3) = .pointer (some ⟨w.heap.size + 1, 0, none⟩)) (fun _ W => Box W w.heap.size us ∧ Box W (w.heap.size + 1) us ∧ Below w.heap.size w W) i a' W' → Q' .normal a' W') (hpn : ∀ c a d v w, Q' (.panic c) (a.put d v) w → Q' (.panic c) a w) :
    Code.wp P ((Code.region r6 #[⟨some 10, .move (.tmp 5), t0, s0, #[], none⟩, ⟨some 11, .indexAddr tA (.tmp 2) (.tmp 10), t2, s2, #[⟨0, .data⟩], none⟩, ⟨some 12, .load tx (.tmp 11), t3, s3, #[⟨1, .data⟩], none⟩, ⟨some 13, .move (.tmp 5), t4, s4, #[], none⟩, ⟨some 14, .indexAddr tA (.tmp 3) (.tmp 13), t6, s6, #[⟨3, .data⟩], none⟩, ⟨some 15, .load tx (.tmp 14), t7, s7, #[⟨4, .data⟩], none⟩, ⟨some 16, .binOp .neq tb (.tmp 12) (.tmp 15) tc, t8, s8, #[⟨2, .data⟩, ⟨5, .data⟩], none⟩] true).seq (Code.cond (.tmp 16) c1 .skip)) Q' a W := by
  have hz := h.sz
  obtain ⟨x2, x3⟩ := h.x
  obtain ⟨v, hv⟩ : ∃ v, us[i]? = some v := ⟨_, List.getElem?_eq_getElem (by omega)⟩
  have hn1 := hne v (List.mem_of_getElem? hv)
  have eu : us = us.take i ++ ([v] ++ us.drop (i + 1)) := by
    conv => lhs; rw [← List.take_append_drop i us]
    rw [List.drop_eq_getElem_cons (by omega), (List.getElem?_eq_some_iff.1 hv).2]
    rfl
  have lt : (us.take i).length = i := by rw [List.length_take]; omega
  have hD : Box W.drew w.heap.size us ∧ Box W.drew (w.heap.size + 1) us ∧ Below w.heap.size w W.drew := ⟨h.d.1.later (Below.refl _ W).drew, h.d.2.1.later (Below.refl _ W).drew, h.d.2.2.drew⟩
  have cl : ∀ {V : World} {p : Nat}, Box V p us → V.cell? ⟨p, i, none⟩ = some v := by
    intro V p hb
    rw [eu] at hb
    exact (Box.seg hb lt).one
  refine wp_seq ?_
  have hpn2 : ∀ c a d v w, (Exit.then (fun a w => Code.wp P (Code.cond (.tmp 16) c1 .skip) Q' a w) Q') (.panic c) (Act.put a d v) w → (Exit.then (fun a w => Code.wp P (Code.cond (.tmp 16) c1 .skip) Q' a w) Q') (.panic c) a w := fun c a d v w hq => hpn c a d v w hq
  refine wp_region_held_drew (S := fun V => Box V w.heap.size us ∧ Box V (w.heap.size + 1) us) hm ⟨hD.1, hD.2.1⟩ (fun _ => ?_)
  have hS : Box W.drew w.heap.size us ∧ Box W.drew (w.heap.size + 1) us := ⟨hD.1, hD.2.1⟩
  refine dr_val 0 10 (v := .int .i64 i) rfl (by kernel_rfl) hpn2 (fun V _ => by rw [← h.hi]; rfl) hS ?_
  refine dr_val 1 11 (v := .pointer (some ⟨w.heap.size, i, none⟩)) rfl (by kernel_rfl) hpn2 (fun V _ => run_indexA hA hkA ((put_ne (by omega)).trans x2) (put_eq (by omega)) hi V) hS ?_
  refine dr_val 2 12 (v := v) rfl (by kernel_rfl) hpn2 (fun V hV => by simp only [execOp, put_eq (show 11 < (a.put (some 10) (.int .i64 i)).tmps.size by rw [put_sz]; omega), Instr.loadAt, Instr.sureAddr, Sem.run_bind, Sem.run_pure, Result.andThen_ok, run_loadS V htx (cl hV.1)]) hS ?_
  refine dr_val 3 13 (v := .int .i64 i) rfl (by kernel_rfl) hpn2 (fun V _ => by show Result.ok _ V = _; rw [put_ne (by omega), put_ne (by omega), put_ne (by omega), h.hi]) hS ?_
  refine dr_val 4 14 (v := .pointer (some ⟨w.heap.size + 1, i, none⟩)) rfl (by kernel_rfl) hpn2 (fun V _ => run_indexA hA hkA ((put_ne (by omega)).trans ((put_ne (by omega)).trans ((put_ne (by omega)).trans ((put_ne (by omega)).trans x3)))) (put_eq (by rw [put_sz, put_sz, put_sz]; omega)) hi V) hS ?_
  have e14 : ∀ u0 u1 u2 u3 u4 : Value, (((((a.put (some 10) u0).put (some 11) u1).put (some 12) u2).put (some 13) u3).put (some 14) u4).eval (.tmp 14) = u4 := fun u0 u1 u2 u3 u4 => put_eq (by rw [put_sz, put_sz, put_sz, put_sz]; omega)
  refine dr_val 5 15 (v := v) rfl (by kernel_rfl) hpn2 (fun V hV => by simp only [execOp, e14, Instr.loadAt, Instr.sureAddr, Sem.run_bind, Sem.run_pure, Result.andThen_ok, run_loadS V htx (cl hV.2)]) hS ?_
  have e0 : ∀ u0 u1 u2 u3 u4 u5 : Value, ((((((a.put (some 10) u0).put (some 11) u1).put (some 12) u2).put (some 13) u3).put (some 14) u4).put (some 15) u5).eval (.tmp 12) = u2 := fun u0 u1 u2 u3 u4 u5 => (put_ne (by omega)).trans ((put_ne (by omega)).trans ((put_ne (by omega)).trans (put_eq (by rw [put_sz, put_sz]; omega))))
  have e1 : ∀ u0 u1 u2 u3 u4 u5 : Value, ((((((a.put (some 10) u0).put (some 11) u1).put (some 12) u2).put (some 13) u3).put (some 14) u4).put (some 15) u5).eval (.tmp 15) = u5 := fun u0 u1 u2 u3 u4 u5 => put_eq (by rw [put_sz, put_sz, put_sz, put_sz, put_sz]; omega)
  refine dr_val 6 16 (v := .bool false) rfl (by kernel_rfl) hpn2 (fun V _ => ?_) hS ?_
  · have hq := hn1 (.tmp 12) (.tmp 15) V
    show (do pure (.value (← (do eqGuard .neq tb (.tmp 12) (.tmp 15) _ _; binOp .neq tb _ _ : Sem Value))) : Sem Next).run P V = _
    rw [e0, e1, Sem.run_bind, hq]
    rfl
  refine ⟨by kernel_rfl, ?_⟩
  refine wp_cond_false (put_eq (by rw [put_sz, put_sz, put_sz, put_sz, put_sz, put_sz]; omega)) (wp_skip (hQ _ _ ⟨?_, ?_, ?_, ⟨?_, ?_⟩, hD⟩))
  · exact (put_ne (by omega)).trans ((put_ne (by omega)).trans ((put_ne (by omega)).trans ((put_ne (by omega)).trans ((put_ne (by omega)).trans ((put_ne (by omega)).trans ((put_ne (by omega)).trans h.hi))))))
  · exact put_df.trans (put_df.trans (put_df.trans (put_df.trans (put_df.trans (put_df.trans (put_df.trans h.df))))))
  · exact put_sz.trans (put_sz.trans (put_sz.trans (put_sz.trans (put_sz.trans (put_sz.trans (put_sz.trans hz))))))
  · exact (put_ne (by omega)).trans ((put_ne (by omega)).trans ((put_ne (by omega)).trans ((put_ne (by omega)).trans ((put_ne (by omega)).trans ((put_ne (by omega)).trans ((put_ne (by omega)).trans x2))))))
  · exact (put_ne (by omega)).trans ((put_ne (by omega)).trans ((put_ne (by omega)).trans ((put_ne (by omega)).trans ((put_ne (by omega)).trans ((put_ne (by omega)).trans ((put_ne (by omega)).trans x3))))))

theorem arr_eq {tA tB eA tx tb tc ti tj tk tm : TypeId} {v cv : Value} {us : List Value} {fn : Func} {c1 : Code} {r0 r1 : Nat} {t10 t11 t12 t13 t14 t15 t16 : TypeId} {s10 s11 s12 s13 s14 s15 s16 : String} {f13 f14 f15 f16 : Array Edge} (hm : P.follows .mixedOrders = true) (hx : v.cells = us.toArray) (hN : fn.ntmps = 17) (hA : P.underlying tA = some (.array n eA)) (hkA : (P.info? eA).map (·.size) = some 1) (htx : Sca P tx) (hu : us.length = n) (hne : ∀ v ∈ us, NeqS P tb v) (hn : n < 1000) (hres : fn.results = #[.tmp 4]) :
    Code.wp P ((Code.region r0 #[⟨some 2, .box tA (.tmp 0), t0, s0, f0, none⟩, ⟨some 3, .box tB (.tmp 1), t1, s1, f1, none⟩, ⟨some 4, .assign (.const cv), t2, s2, f2, none⟩] false).seq
      (((Code.region r2 #[⟨some 5, .assign (.const (.int .i64 0)), t3, s3, f3, none⟩] false).seq (Code.block b0 (Code.loop
      (((Code.region r3 #[⟨some 6, .move (.tmp 5), t4, s4, f4, none⟩, ⟨some 7, .binOp .lss ti (.tmp 6) (.const (.int .i64 n)) tj, t5, s5, f5, none⟩] false).seq (Code.cond (.tmp 7) Code.skip (Code.exit b0))).seq
        ((Code.block b1 ((Code.region r6 #[⟨some 10, .move (.tmp 5), t6, s6, #[], none⟩, ⟨some 11, .indexAddr tA (.tmp 2) (.tmp 10), t7, s7, #[⟨0, .data⟩], none⟩, ⟨some 12, .load tx (.tmp 11), t8, s8, #[⟨1, .data⟩], none⟩, ⟨some 13, .move (.tmp 5), t9, s9, #[], none⟩, ⟨some 14, .indexAddr tA (.tmp 3) (.tmp 13), t10, s10, #[⟨3, .data⟩], none⟩, ⟨some 15, .load tx (.tmp 14), t11, s11, #[⟨4, .data⟩], none⟩, ⟨some 16, .binOp .neq tb (.tmp 12) (.tmp 15) tc, t12, s12, #[⟨2, .data⟩, ⟨5, .data⟩], none⟩] true).seq (Code.cond (.tmp 16) c1 .skip))).seq
          (Code.region r4 #[⟨some 8, .move (.tmp 5), t13, s13, f13, none⟩, ⟨some 9, .binOp .add tk (.tmp 8) (.const (.int .i64 1)) tm, t14, s14, f14, none⟩, ⟨some 5, .assign (.tmp 9), t15, s15, f15, none⟩] false)))))).seq
      ((Code.region r1 #[⟨some 4, .assign (.const (.bool true)), t16, s16, f16, none⟩] false).seq Code.ret)))
      (bodyPost P fn fun e w' => e = .returned (.bool true) ∧ Below w.heap.size w w') ⟨#[v, v] ++ Array.replicate (fn.ntmps - (#[v, v] : Array Value).size) undef, []⟩ w := by
  refine q_head (us := us) (vs := us) (N := 17) hx hx hN (by omega) ?_
  intro a V h
  refine arr_loop (n := n) (ci := 5) (N := 17) (X := fun a => a.eval (.tmp 2) = .pointer (some ⟨w.heap.size, 0, none⟩) ∧ a.eval (.tmp 3) = .pointer (some ⟨w.heap.size + 1, 0, none⟩)) (D := fun _ W => Box W w.heap.size us ∧ Box W (w.heap.size + 1) us ∧ Below w.heap.size w W) (fun a t v h ht => ⟨(put_ne (by omega)).trans h.1, (put_ne (by omega)).trans h.2⟩) (fun a v h => ⟨(put_ne (by omega)).trans h.1, (put_ne (by omega)).trans h.2⟩) (by omega) (by omega) ⟨h.s2, h.s3⟩ ⟨h.b0, h.b1, h.bl⟩ h.df h.sz
    (fun i a W hi h Q' g1 g2 => body_arQ hm (by omega) hA hkA htx hu hne i a W hi h Q' g1 g2) pan_body ?_
  intro a W h
  have hz := h.sz
  refine wp_seq (wp_region_list (wpl_assign (wpl_nil (wp_ret ?_))))
  refine z_ret hres (put_eq (by omega)) (put_df.trans h.df) ?_
  exact ⟨rfl, h.d.2.2⟩
end

end Go.Proofs.YtjiplphfpkhmpaaGreat
