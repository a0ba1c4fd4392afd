/-
  Functions that look at two rows of single cells, or reckon a row's size.
-/
import Derived.Test.YtjiplphfpkhmpaaGreatE9
namespace Go.Proofs.YtjiplphfpkhmpaaGreat
open Go.RowKit

section
variable {P : Program} {α : Type} {T : Cd α} {t0 t1 t2 t3 t4 t5 t6 t7 t8 t9 : TypeId} {t10 t11 t12 t13 t14 t15 t16 t17 t18 t19 t20 t21 t22 t23 t24 t25 : TypeId} {s0 s1 s2 s3 s4 s5 s6 s7 s8 s9 s10 s11 s12 s13 s14 s15 s16 s17 s18 s19 s20 s21 s22 s23 s24 s25 : String} {f0 f1 f2 f3 f4 f5 f6 f7 f8 f9 f10 f11 f12 f13 f14 f15 f16 f17 f18 f19 f20 f21 f22 f23 f24 f25 : Array Edge} {r0 r1 r2 r3 r4 r5 r6 r7 r8 r9 r10 b0 b1 : Nat}

/-- A round: two cells are looked at. -/
theorem body_eqS {N n c c' : Nat} {tA eA tx tb tc : TypeId} {c1 : Code} {w : World} {o o' : Option Addr} {xs : List α} (hm : P.follows .mixedOrders = true) (hN : 25 < N) (hA : P.underlying tA = some (.slice eA)) (hkA : (P.info? eA).map (·.size) = some 1) (hk : T.k = 1) (htx : Sca P tx)
    (hT : ∀ {W V B C us vs x}, T.rep W B us x → T.rep V C vs x → ∃ v, us = [v] ∧ vs = [v] ∧ NeqS P tb v) (hn : n = xs.length) (hr : ∀ j x, xs[j]? = some x → At T w 0 o j x) (hr' : ∀ j x, xs[j]? = some x → At T w 0 o' j x)
    (i : Nat) (a : Act) (W : World) (hi : i < n) (h : Inv o n c 5 N (fun _ a => a.eval (.tmp 1) = .slice o' n c') (fun _ W => Below w.heap.size w W) i a W) (Q' : Exit → Act → World → Prop) (hQ : ∀ a' W', Mid o n c 5 N (fun _ a => a.eval (.tmp 1) = .slice o' n c') (fun _ W => Below w.heap.size w W) i a' W' → Q' .normal a' W') (hpn : ∀ c a d v w, Q' (.panic c) (a.put d v) w → Q' (.panic c) a w) :
    Code.wp P ((Code.region r6 #[⟨some 17, .move (.tmp 0), t0, s0, #[], none⟩, ⟨some 18, .move (.tmp 5), t1, s1, #[], none⟩, ⟨some 19, .indexAddr tA (.tmp 17) (.tmp 18), t2, s2, #[⟨0, .data⟩, ⟨1, .data⟩], none⟩, ⟨some 20, .load tx (.tmp 19), t3, s3, #[⟨2, .data⟩], none⟩, ⟨some 21, .move (.tmp 1), t4, s4, #[], none⟩, ⟨some 22, .move (.tmp 5), t5, s5, #[], none⟩, ⟨some 23, .indexAddr tA (.tmp 21) (.tmp 22), t6, s6, #[⟨4, .data⟩, ⟨5, .data⟩], none⟩, ⟨some 24, .load tx (.tmp 23), t7, s7, #[⟨6, .data⟩], none⟩, ⟨some 25, .binOp .neq tb (.tmp 20) (.tmp 24) tc, t8, s8, #[⟨3, .data⟩, ⟨7, .data⟩], none⟩] true).seq (Code.cond (.tmp 25) c1 .skip)) Q' a W := by
  have hz := h.sz
  obtain ⟨x, hxi⟩ : ∃ x, xs[i]? = some x := ⟨_, List.getElem?_eq_getElem (by omega)⟩
  obtain ⟨p, q, us, rfl, _, hp, hseg, hrep⟩ := hr i x hxi
  obtain ⟨p', q', vs, rfl, _, hp', hseg', hrep'⟩ := hr' i x hxi
  obtain ⟨v, rfl, rfl, hne⟩ := hT hrep hrep'
  have hpl : Below w.heap.size w W := h.d
  have h1 := h.x
  rw [hk] at hseg hseg'
  refine wp_seq ?_
  have hpn2 : ∀ c a d v w, (Exit.then (fun a w => Code.wp P (Code.cond (.tmp 25) c1 .skip) Q' a w) Q') (.panic c) (Act.put a d v) w → (Exit.then (fun a w => Code.wp P (Code.cond (.tmp 25) c1 .skip) Q' a w) Q') (.panic c) a w := fun c a d v w hq => hpn c a d v w hq
  refine wp_region_held_drew (S := fun V => Below w.heap.size w V) hm hpl.drew (fun _ => ?_)
  have sg : ∀ V, Below w.heap.size w V → Seg V p (q + i * 1) [v] := fun V hV => hseg.frm (Fr.of hV) (Nat.zero_le _) hp
  have sg' : ∀ V, Below w.heap.size w V → Seg V p' (q' + i * 1) [v] := fun V hV => hseg'.frm (Fr.of hV) (Nat.zero_le _) hp'
  have ld : ∀ {a : Act} {d : Nat} {ty : TypeId} {ps : String} {af : Array Edge} {t : Nat} {p o : Nat}, a.eval (.tmp t) = .pointer (some ⟨p, o, none⟩) → (∀ V, Below w.heap.size w V → Seg V p o [v]) → ∀ V, Below w.heap.size w V → (execOp a.eval (⟨some d, .load tx (.tmp t), ty, ps, af, none⟩ : Oper)).run P V = .ok (.value v) V := by
    intro a d ty ps af t p o ha hs V hV
    simp only [execOp, ha, Instr.loadAt, Instr.sureAddr, Sem.run_bind, Sem.run_pure, Result.andThen_ok, run_loadS V htx (hs V hV).one]
  refine dr_val 0 17 (v := .slice (some ⟨p, q, none⟩) n c) rfl (by kernel_rfl) hpn2 (fun V _ => by rw [← h.s]; rfl) hpl.drew ?_
  refine dr_val 1 18 (v := .int .i64 i) rfl (by kernel_rfl) hpn2 (fun V _ => by show Result.ok _ V = _; rw [put_ne (by omega), h.hi]) hpl.drew ?_
  refine dr_val 2 19 (v := .pointer (some ⟨p, q + i * 1, none⟩)) rfl (by kernel_rfl) hpn2 (fun V _ => run_index hA hkA ((put_ne (by omega)).trans (put_eq (by omega))) (put_eq (by rw [put_sz]; omega)) hi V) hpl.drew ?_
  refine dr_val 3 20 (v := v) rfl (by kernel_rfl) hpn2 (ld (put_eq (by rw [put_sz, put_sz]; omega)) sg) hpl.drew ?_
  refine dr_val 4 21 (v := .slice (some ⟨p', q', none⟩) n c') rfl (by kernel_rfl) hpn2 (fun V _ => by show Result.ok _ V = _; rw [put_ne (by omega), put_ne (by omega), put_ne (by omega), put_ne (by omega), h1]) hpl.drew ?_
  refine dr_val 5 22 (v := .int .i64 i) rfl (by kernel_rfl) hpn2 (fun V _ => by show Result.ok _ V = _; rw [put_ne (by omega), put_ne (by omega), put_ne (by omega), put_ne (by omega), put_ne (by omega), h.hi]) hpl.drew ?_
  refine dr_val 6 23 (v := .pointer (some ⟨p', q' + i * 1, none⟩)) rfl (by kernel_rfl) hpn2 (fun V _ => run_index hA hkA ((put_ne (by omega)).trans (put_eq (by rw [put_sz, put_sz, put_sz, put_sz]; omega))) (put_eq (by rw [put_sz, put_sz, put_sz, put_sz, put_sz]; omega)) hi V) hpl.drew ?_
  refine dr_val 7 24 (v := v) rfl (by kernel_rfl) hpn2 (ld (put_eq (by rw [put_sz, put_sz, put_sz, put_sz, put_sz, put_sz]; omega)) sg') hpl.drew ?_
  have e0 : ∀ u0 u1 u2 u3 u4 u5 u6 u7 : Value, ((((((((a.put (some 17) u0).put (some 18) u1).put (some 19) u2).put (some 20) u3).put (some 21) u4).put (some 22) u5).put (some 23) u6).put (some 24) u7).eval (.tmp 20) = u3 := fun u0 u1 u2 u3 u4 u5 u6 u7 => (put_ne (by omega)).trans ((put_ne (by omega)).trans ((put_ne (by omega)).trans ((put_ne (by omega)).trans (put_eq (by rw [put_sz, put_sz, put_sz]; omega)))))
  have e1 : ∀ u0 u1 u2 u3 u4 u5 u6 u7 : Value, ((((((((a.put (some 17) u0).put (some 18) u1).put (some 19) u2).put (some 20) u3).put (some 21) u4).put (some 22) u5).put (some 23) u6).put (some 24) u7).eval (.tmp 24) = u7 := fun u0 u1 u2 u3 u4 u5 u6 u7 => put_eq (by rw [put_sz, put_sz, put_sz, put_sz, put_sz, put_sz, put_sz]; omega)
  refine dr_val 8 25 (v := .bool false) rfl (by kernel_rfl) hpn2 (fun V _ => ?_) hpl.drew ?_
  · have hq := hne (.tmp 20) (.tmp 24) V
    show (do pure (.value (← (do eqGuard .neq tb (.tmp 20) (.tmp 24) _ _; binOp .neq tb _ _ : Sem Value))) : Sem Next).run P V = _
    rw [e0, e1, Sem.run_bind, hq]
    rfl
  refine ⟨by kernel_rfl, ?_⟩
  refine wp_cond_false (put_eq (by rw [put_sz, put_sz, put_sz, put_sz, put_sz, put_sz, put_sz, put_sz]; omega)) (wp_skip (hQ _ _ ⟨?_, ?_, ?_, ?_, ?_, hpl.drew⟩))
  · exact (put_ne (by omega)).trans ((put_ne (by omega)).trans ((put_ne (by omega)).trans ((put_ne (by omega)).trans ((put_ne (by omega)).trans ((put_ne (by omega)).trans ((put_ne (by omega)).trans ((put_ne (by omega)).trans ((put_ne (by omega)).trans h.hi))))))))
  · exact (put_ne (by omega)).trans ((put_ne (by omega)).trans ((put_ne (by omega)).trans ((put_ne (by omega)).trans ((put_ne (by omega)).trans ((put_ne (by omega)).trans ((put_ne (by omega)).trans ((put_ne (by omega)).trans ((put_ne (by omega)).trans h.s))))))))
  · exact put_df.trans (put_df.trans (put_df.trans (put_df.trans (put_df.trans (put_df.trans (put_df.trans (put_df.trans (put_df.trans h.df))))))))
  · exact put_sz.trans (put_sz.trans (put_sz.trans (put_sz.trans (put_sz.trans (put_sz.trans (put_sz.trans (put_sz.trans (put_sz.trans hz))))))))
  · exact (put_ne (by omega)).trans ((put_ne (by omega)).trans ((put_ne (by omega)).trans ((put_ne (by omega)).trans ((put_ne (by omega)).trans ((put_ne (by omega)).trans ((put_ne (by omega)).trans ((put_ne (by omega)).trans ((put_ne (by omega)).trans h1))))))))

theorem sumT_take {f : α → Int} {x : α} : ∀ {xs : List α} {i : Nat}, xs[i]? = some x → sumT f (xs.take (i + 1)) = sumT f (xs.take i) + f x
  | [], i, h => by cases h
  | y :: t, 0, h => by
      obtain rfl := Option.some.inj h
      show f y + 0 = 0 + f y
      omega
  | y :: t, i + 1, h => by
      have := sumT_take (f := f) (xs := t) (i := i) (by simpa using h)
      show f y + sumT f (t.take (i + 1)) = f y + sumT f (t.take i) + f x
      omega
theorem sumT_le {f : α → Int} (h : ∀ x, 0 ≤ f x) : ∀ (xs : List α) (i : Nat), sumT f (xs.take i) ≤ sumT f xs
  | [], i => by rw [List.take_nil]; exact Int.le_refl _
  | y :: t, 0 => sumT_nn h (y :: t)
  | y :: t, i + 1 => by
      have := sumT_le h t i
      show f y + sumT f (t.take i) ≤ f y + sumT f t
      omega
theorem sumT_zero {f : α → Int} (h : ∀ x, f x = 0) : ∀ xs : List α, sumT f xs = 0
  | [] => rfl
  | y :: t => by
      show f y + sumT f t = 0
      rw [h y, sumT_zero h t]
      rfl

/-- Nothing but how many. -/
theorem row_sz0 {fn : Func} {N : Nat} {tA ti tj tm tn : TypeId} {cv : Value} (hN : fn.ntmps = N) (hd : 11 < N) (hres : fn.results = #[.tmp 4]) (hA : (match P.underlying tA with | some (.slice _) => true | _ => false) = true)
    (w : World) (o : Option Addr) (n c : Nat) (L : Int) (hn : n ≤ 9223372036854775807) (h0 : 0 ≤ L) (h1 : L ≤ 1048576) :
    Code.wp P ((Code.region r0 #[⟨some 4, .assign (.const cv), t0, s0, f0, none⟩] false).seq ((Code.region r1 #[⟨some 5, .move (.tmp 1), t1, s1, f1, none⟩, ⟨some 6, .move (.tmp 0), t2, s2, f2, none⟩, ⟨some 7, .call { callee := .builtin .len, args := #[.tmp 6], argTypes := #[tA] }, t3, s3, f3, none⟩, ⟨some 8, .binOp .sub tm (.tmp 5) (.tmp 7) tn, t4, s4, f4, none⟩, ⟨some 1, .assign (.tmp 8), t5, s5, f5, none⟩] false).seq
      (((Code.region r2 #[⟨some 9, .move (.tmp 1), t6, s6, f6, none⟩, ⟨some 10, .binOp .lss ti (.tmp 9) (.const (.int .i64 0)) tj, t7, s7, f7, none⟩] false).seq (Code.cond (.tmp 10) ((Code.region r3 #[⟨some 4, .assign (.const (.int .i64 (-1))), t8, s8, f8, none⟩] false).seq Code.ret) Code.skip)).seq
      ((Code.region r4 #[⟨some 11, .move (.tmp 1), t9, s9, f9, none⟩, ⟨some 4, .assign (.tmp 11), t10, s10, f10, none⟩] false).seq Code.ret))))
      (bodyPost P fn fun e w' => e = .returned (.int .i64 (szL L n)) ∧ Below w.heap.size w w') ⟨#[.slice o n c, .int .i64 L] ++ Array.replicate (fn.ntmps - (#[.slice o n c, .int .i64 L] : Array Value).size) undef, []⟩ w := by
  have hsz : (⟨#[.slice o n c, .int .i64 L] ++ Array.replicate (fn.ntmps - (#[.slice o n c, .int .i64 L] : Array Value).size) undef, []⟩ : Act).tmps.size = N := by rw [frame2_z (by omega), hN]
  have hdf : (⟨#[.slice o n c, .int .i64 L] ++ Array.replicate (fn.ntmps - (#[.slice o n c, .int .i64 L] : Array Value).size) undef, []⟩ : Act).defers = [] := rfl
  have h00 : (⟨#[.slice o n c, .int .i64 L] ++ Array.replicate (fn.ntmps - (#[.slice o n c, .int .i64 L] : Array Value).size) undef, []⟩ : Act).eval (.tmp 0) = .slice o n c := frame2_0
  have h01 : (⟨#[.slice o n c, .int .i64 L] ++ Array.replicate (fn.ntmps - (#[.slice o n c, .int .i64 L] : Array Value).size) undef, []⟩ : Act).eval (.tmp 1) = .int .i64 L := frame2_1
  generalize (⟨#[.slice o n c, .int .i64 L] ++ Array.replicate (fn.ntmps - (#[.slice o n c, .int .i64 L] : Array Value).size) undef, []⟩ : Act) = a at *
  refine wp_seq (wp_region_list (wpl_assign (wpl_nil (wp_seq (wp_region_list ?_)))))
  refine wpl_move ?_
  rw [put_ne (by omega), h01]
  refine wpl_move ?_
  rw [put_ne (by omega), put_ne (by omega), h00]
  refine wpl_len hA (put_eq (by rw [put_sz, put_sz]; omega)) ?_
  refine wpl_bin (u := .int .i64 L) (v := .int .i64 n) ((put_ne (by omega)).trans ((put_ne (by omega)).trans (put_eq (by rw [put_sz]; omega)))) (put_eq (by rw [put_sz, put_sz, put_sz]; omega)) (run_sub w (by omega) (by omega)) ?_
  refine wpl_assign (wpl_nil ?_)
  rw [put_eq (by rw [put_sz, put_sz, put_sz, put_sz]; omega)]
  have hs6 : ((((((a.put (some 4) (Act.eval a (.const cv))).put (some 5) (.int .i64 L)).put (some 6) (.slice o n c)).put (some 7) (.int .i64 n)).put (some 8) (.int .i64 (L - n))).put (some 1) (.int .i64 (L - n))).tmps.size = N := by rw [put_sz, put_sz, put_sz, put_sz, put_sz, put_sz]; exact hsz
  have hd6 : ((((((a.put (some 4) (Act.eval a (.const cv))).put (some 5) (.int .i64 L)).put (some 6) (.slice o n c)).put (some 7) (.int .i64 n)).put (some 8) (.int .i64 (L - n))).put (some 1) (.int .i64 (L - n))).defers = [] := put_df.trans (put_df.trans (put_df.trans (put_df.trans (put_df.trans (put_df.trans hdf)))))
  have h16 : ((((((a.put (some 4) (Act.eval a (.const cv))).put (some 5) (.int .i64 L)).put (some 6) (.slice o n c)).put (some 7) (.int .i64 n)).put (some 8) (.int .i64 (L - n))).put (some 1) (.int .i64 (L - n))).eval (.tmp 1) = .int .i64 (L - n) := put_eq (by rw [put_sz, put_sz, put_sz, put_sz, put_sz]; omega)
  generalize ((((((a.put (some 4) (Act.eval a (.const cv))).put (some 5) (.int .i64 L)).put (some 6) (.slice o n c)).put (some 7) (.int .i64 n)).put (some 8) (.int .i64 (L - n))).put (some 1) (.int .i64 (L - n))) = b at *
  refine wp_seq (z_cond (N := N) h16 hs6 (by omega) ?_ ?_)
  · intro hv a' h2 h3 h4
    show bodyPost P fn (fun e w' => e = .returned (.int .i64 (szL L n)) ∧ Below w.heap.size w w') .ret a' w
    exact z_ret hres h4 (h3.trans hd6) ⟨by rw [szL_no (by omega)], Below.refl _ w⟩
  · intro hv
    refine wp_seq (wp_region_list (wpl_move (wpl_assign (wpl_nil (wp_ret ?_)))))
    rw [put_ne (by omega), put_ne (by omega), h16]
    rw [put_eq (by rw [put_sz, put_sz, hs6]; omega)]
    refine z_ret hres (put_eq (by rw [put_sz, put_sz, put_sz, hs6]; omega)) (put_df.trans (put_df.trans (put_df.trans (put_df.trans hd6)))) ?_
    exact ⟨by rw [szL_yes (by omega)], Below.refl _ w⟩

/-- So much of a row is reckoned. -/
structure RoZ (T : Cd α) (w : World) (n : Nat) (L : Int) (xs : List α) (i : Nat) (W : World) : Prop where
  bl : Below w.heap.size w W
  ge : (n : Int) + sumT T.tot (xs.take i) ≤ L
abbrev XZ (T : Cd α) (n : Nat) (L : Int) (xs : List α) (i : Nat) (a : Act) : Prop := a.eval (.tmp 1) = .int .i64 (L - ((n : Int) + sumT T.tot (xs.take i)))
/-- How many, and each. -/
theorem row_sz {body : Code} {fn : Func} {N d26 : Nat} {tA ti tj tm tn tk tl tp tq : TypeId} {cv : Value} (hN : fn.ntmps = N) (hd : 25 < d26 ∧ d26 < N) (hres : fn.results = #[.tmp 4]) (hA : (match P.underlying tA with | some (.slice _) => true | _ => false) = true)
    (w : World) (o : Option Addr) (n c : Nat) (xs : List α) (hxn : n = xs.length) (L : Int) (hn : n ≤ 9223372036854775807) (h0 : 0 ≤ L) (h1 : L ≤ 1048576)
    (hb : ∀ i a W, i < n → Inv o n c 5 N (XZ T n L xs) (RoZ T w n L xs) i a W → ∀ Q' : Exit → Act → World → Prop, (∀ a' W', Mid o n c 5 N (XZ T n L xs) (RoZ T w n L xs) i a' W' → Q' .normal a' W') → (∀ a' W', a'.tmps.size = N → a'.defers = [] → a'.eval (.tmp 4) = .int .i64 (-1) → Below w.heap.size w W' → ¬ (n : Int) + sumT T.tot xs ≤ L → Q' .ret a' W') → body.wp P Q' a W) :
    Code.wp P ((Code.region r0 #[⟨some 4, .assign (.const cv), t0, s0, f0, none⟩] false).seq ((Code.region r1 #[⟨some 6, .move (.tmp 1), t1, s1, f1, none⟩, ⟨some 7, .move (.tmp 0), t2, s2, f2, none⟩, ⟨some 8, .call { callee := .builtin .len, args := #[.tmp 7], argTypes := #[tA] }, t3, s3, f3, none⟩, ⟨some 9, .binOp .sub tm (.tmp 6) (.tmp 8) tn, t4, s4, f4, none⟩, ⟨some 1, .assign (.tmp 9), t5, s5, f5, none⟩] false).seq
      (((Code.region r2 #[⟨some 10, .move (.tmp 1), t6, s6, f6, none⟩, ⟨some 11, .binOp .lss ti (.tmp 10) (.const (.int .i64 0)) tj, t7, s7, f7, none⟩] false).seq (Code.cond (.tmp 11) ((Code.region r3 #[⟨some 4, .assign (.const (.int .i64 (-1))), t8, s8, f8, none⟩] false).seq Code.ret) Code.skip)).seq
      (((Code.region r4 #[⟨some 5, .assign (.const (.int .i64 0)), t9, s9, f9, none⟩] false).seq (Code.block b0 (Code.loop
      (((Code.region r5 #[⟨some 12, .move (.tmp 5), t10, s10, f10, none⟩, ⟨some 13, .move (.tmp 0), t11, s11, f11, none⟩, ⟨some 14, .call { callee := .builtin .len, args := #[.tmp 13], argTypes := #[tA] }, t12, s12, f12, none⟩, ⟨some 15, .binOp .lss tp (.tmp 12) (.tmp 14) tq, t13, s13, f13, none⟩] false).seq (Code.cond (.tmp 15) Code.skip (Code.exit b0))).seq
        ((Code.block b1 body).seq (Code.region r6 #[⟨some 16, .move (.tmp 5), t14, s14, f14, none⟩, ⟨some 17, .binOp .add tk (.tmp 16) (.const (.int .i64 1)) tl, t15, s15, f15, none⟩, ⟨some 5, .assign (.tmp 17), t16, s16, f16, none⟩] false)))))).seq
      ((Code.region r10 #[⟨some d26, .move (.tmp 1), t17, s17, f17, none⟩, ⟨some 4, .assign (.tmp d26), t18, s18, f18, none⟩] false).seq Code.ret)))))
      (bodyPost P fn fun e w' => e = .returned (.int .i64 (szL L ((cRow T).tot xs))) ∧ Below w.heap.size w w') ⟨#[.slice o n c, .int .i64 L] ++ Array.replicate (fn.ntmps - (#[.slice o n c, .int .i64 L] : Array Value).size) undef, []⟩ w := by
  obtain ⟨k0, k1⟩ := hd
  have hsz : (⟨#[.slice o n c, .int .i64 L] ++ Array.replicate (fn.ntmps - (#[.slice o n c, .int .i64 L] : Array Value).size) undef, []⟩ : Act).tmps.size = N := by rw [frame2_z (by omega), hN]
  have hdf : (⟨#[.slice o n c, .int .i64 L] ++ Array.replicate (fn.ntmps - (#[.slice o n c, .int .i64 L] : Array Value).size) undef, []⟩ : Act).defers = [] := rfl
  have h00 : (⟨#[.slice o n c, .int .i64 L] ++ Array.replicate (fn.ntmps - (#[.slice o n c, .int .i64 L] : Array Value).size) undef, []⟩ : Act).eval (.tmp 0) = .slice o n c := frame2_0
  have h01 : (⟨#[.slice o n c, .int .i64 L] ++ Array.replicate (fn.ntmps - (#[.slice o n c, .int .i64 L] : Array Value).size) undef, []⟩ : Act).eval (.tmp 1) = .int .i64 L := frame2_1
  generalize (⟨#[.slice o n c, .int .i64 L] ++ Array.replicate (fn.ntmps - (#[.slice o n c, .int .i64 L] : Array Value).size) undef, []⟩ : Act) = a at *
  have hnn := sumT_nn T.nn xs
  have htot : (cRow T).tot xs = (n : Int) + sumT T.tot xs := by rw [hxn]; rfl
  refine wp_seq (wp_region_list (wpl_assign (wpl_nil (wp_seq (wp_region_list ?_)))))
  refine wpl_move ?_
  rw [put_ne (by omega), h01]
  refine wpl_move ?_
  rw [put_ne (by omega), put_ne (by omega), h00]
  refine wpl_len hA (put_eq (by rw [put_sz, put_sz]; omega)) ?_
  refine wpl_bin (u := .int .i64 L) (v := .int .i64 n) ((put_ne (by omega)).trans ((put_ne (by omega)).trans (put_eq (by rw [put_sz]; omega)))) (put_eq (by rw [put_sz, put_sz, put_sz]; omega)) (run_sub w (by omega) (by omega)) ?_
  refine wpl_assign (wpl_nil ?_)
  rw [put_eq (by rw [put_sz, put_sz, put_sz, put_sz]; omega)]
  have hs6 : ((((((a.put (some 4) (Act.eval a (.const cv))).put (some 6) (.int .i64 L)).put (some 7) (.slice o n c)).put (some 8) (.int .i64 n)).put (some 9) (.int .i64 (L - n))).put (some 1) (.int .i64 (L - n))).tmps.size = N := by rw [put_sz, put_sz, put_sz, put_sz, put_sz, put_sz]; exact hsz
  have hd6 : ((((((a.put (some 4) (Act.eval a (.const cv))).put (some 6) (.int .i64 L)).put (some 7) (.slice o n c)).put (some 8) (.int .i64 n)).put (some 9) (.int .i64 (L - n))).put (some 1) (.int .i64 (L - n))).defers = [] := put_df.trans (put_df.trans (put_df.trans (put_df.trans (put_df.trans (put_df.trans hdf)))))
  have h06 : ((((((a.put (some 4) (Act.eval a (.const cv))).put (some 6) (.int .i64 L)).put (some 7) (.slice o n c)).put (some 8) (.int .i64 n)).put (some 9) (.int .i64 (L - n))).put (some 1) (.int .i64 (L - n))).eval (.tmp 0) = .slice o n c := (put_ne (by omega)).trans ((put_ne (by omega)).trans ((put_ne (by omega)).trans ((put_ne (by omega)).trans ((put_ne (by omega)).trans ((put_ne (by omega)).trans h00)))))
  have h16 : ((((((a.put (some 4) (Act.eval a (.const cv))).put (some 6) (.int .i64 L)).put (some 7) (.slice o n c)).put (some 8) (.int .i64 n)).put (some 9) (.int .i64 (L - n))).put (some 1) (.int .i64 (L - n))).eval (.tmp 1) = .int .i64 (L - n) := put_eq (by rw [put_sz, put_sz, put_sz, put_sz, put_sz]; omega)
  generalize ((((((a.put (some 4) (Act.eval a (.const cv))).put (some 6) (.int .i64 L)).put (some 7) (.slice o n c)).put (some 8) (.int .i64 n)).put (some 9) (.int .i64 (L - n))).put (some 1) (.int .i64 (L - n))) = b at *
  refine wp_seq (z_cond (N := N) h16 hs6 (by omega) ?_ ?_)
  · intro hv a' h2 h3 h4
    show bodyPost P fn (fun e w' => e = .returned (.int .i64 (szL L ((cRow T).tot xs))) ∧ Below w.heap.size w w') .ret a' w
    exact z_ret hres h4 (h3.trans hd6) ⟨by rw [szL_no (by rw [htot]; omega)], Below.refl _ w⟩
  · intro hv
    refine row_loop (o := o) (n := n) (c := c) (ci := 5) (N := N) (X := XZ T n L xs) (D := RoZ T w n L xs) (fun i a t v h ht => (put_ne (by omega)).trans h) (fun i a v h => (put_ne (by omega)).trans h) (by omega) (by omega) hA (by omega)
      ?_ ⟨Below.refl _ w, by show (n : Int) + 0 ≤ L; omega⟩ ((put_ne (by omega)).trans ((put_ne (by omega)).trans h06)) (put_df.trans (put_df.trans hd6)) (by rw [put_sz, put_sz]; exact hs6) (fun i a W hi h Q' g1 g2 _ => hb i a W hi h Q' g1 (fun a' W' q1 q2 q3 q4 q5 => g2 a' W' (z_ret hres q3 q2 ⟨by rw [szL_no (by rw [htot]; exact q5)], q4⟩))) pan_body ?_
    · show Act.eval _ _ = Value.int .i64 (L - ((n : Int) + 0))
      rw [Int.add_zero]
      exact (put_ne (by omega)).trans ((put_ne (by omega)).trans h16)
    intro a W h
    have hz' := h.sz
    have hx := h.x
    have hge := h.d.ge
    have et : xs.take n = xs := List.take_of_length_le (by omega)
    unfold XZ at hx
    rw [et] at hx hge
    refine wp_seq (wp_region_list (wpl_move (wpl_assign (wpl_nil (wp_ret ?_)))))
    rw [hx, put_eq (by omega)]
    refine z_ret hres (put_eq (by rw [put_sz]; omega)) (put_df.trans (put_df.trans h.df)) ?_
    exact ⟨by rw [szL_yes (by rw [htot]; exact hge), htot], h.d.bl⟩
/-- A round: one is reckoned by a call. -/
theorem body_szC {N n c k : Nat} {tA eA tx ti tj : TypeId} {ats : Array TypeId} {f : FuncId} {w : World} {o : Option Addr} {xs : List α} {L : Int} (hN : 26 < N) (hA : P.underlying tA = some (.slice eA)) (hkA : (P.info? eA).map (·.size) = some k) (hk : T.k = k) (htx : Agg P tx k)
    (hf : Fn P f) (hC : SzC P T vA f) (hn : n = xs.length) (hr : ∀ j x, xs[j]? = some x → At T w 0 o j x) (hL : L ≤ 1048576)
    (i : Nat) (a : Act) (W : World) (hi : i < n) (h : Inv o n c 5 N (XZ T n L xs) (RoZ T w n L xs) i a W) (Q' : Exit → Act → World → Prop) (hQ : ∀ a' W', Mid o n c 5 N (XZ T n L xs) (RoZ T w n L xs) i a' W' → Q' .normal a' W') (hR : ∀ a' W', a'.tmps.size = N → a'.defers = [] → a'.eval (.tmp 4) = .int .i64 (-1) → Below w.heap.size w W' → ¬ (n : Int) + sumT T.tot xs ≤ L → Q' .ret a' W') :
    Code.wp P ((Code.region r7 #[⟨some 18, .move (.tmp 0), t0, s0, f0, none⟩, ⟨some 19, .move (.tmp 5), t1, s1, f1, none⟩, ⟨some 20, .indexAddr tA (.tmp 18) (.tmp 19), t2, s2, f2, none⟩, ⟨some 21, .load tx (.tmp 20), t3, s3, f3, none⟩, ⟨some 22, .move (.tmp 1), t4, s4, f4, none⟩, ⟨some 23, .call { callee := .value (.func f), args := #[.tmp 21, .tmp 22], argTypes := ats }, t5, s5, f5, none⟩, ⟨some 1, .assign (.tmp 23), t6, s6, f6, none⟩] false).seq
      ((Code.region r8 #[⟨some 24, .move (.tmp 1), t7, s7, f7, none⟩, ⟨some 25, .binOp .lss ti (.tmp 24) (.const (.int .i64 0)) tj, t8, s8, f8, none⟩] false).seq (Code.cond (.tmp 25) ((Code.region r9 #[⟨some 4, .assign (.const (.int .i64 (-1))), t9, s9, f9, none⟩] false).seq Code.ret) Code.skip))) Q' a W := by
  have hz := h.sz
  obtain ⟨x, hxi⟩ : ∃ x, xs[i]? = some x := ⟨_, List.getElem?_eq_getElem (by omega)⟩
  obtain ⟨p, q, us, rfl, _, hp, hseg, hrep⟩ := hr i x hxi
  have hul := (T.len hrep).trans hk
  have hpl := h.d.bl
  have hge := h.d.ge
  have h1 : a.eval (.tmp 1) = .int .i64 (L - ((n : Int) + sumT T.tot (xs.take i))) := h.x
  have hst := sumT_take (f := T.tot) hxi
  have hle := sumT_le T.nn xs (i + 1)
  have hn0 := sumT_nn T.nn (xs.take i)
  have htn := T.nn x
  rw [hk] at hseg
  refine wp_seq (wp_region_list ?_)
  refine wpl_move ?_
  rw [h.s]
  refine wpl_move ?_
  rw [put_ne (by omega), h.hi]
  refine wpl_index hA hkA ((put_ne (by omega)).trans (put_eq (by omega))) (put_eq (by rw [put_sz]; omega)) hi ?_
  refine wpl_load rfl tx (.tmp 20) rfl (put_eq (by rw [put_sz, put_sz]; omega)) us htx hul (hseg.frm (Fr.of hpl) (Nat.zero_le _) hp) ?_
  refine wpl_move ?_
  rw [put_ne (by omega), put_ne (by omega), put_ne (by omega), put_ne (by omega), h1]
  have e0 : ∀ u0 u1 u2 u3 u4 : Value, (((((a.put (some 18) u0).put (some 19) u1).put (some 20) u2).put (some 21) u3).put (some 22) u4).eval (.tmp 21) = u3 := fun u0 u1 u2 u3 u4 => (put_ne (by omega)).trans (put_eq (by rw [put_sz, put_sz, put_sz]; omega))
  have e1 : ∀ u0 u1 u2 u3 u4 : Value, (((((a.put (some 18) u0).put (some 19) u1).put (some 20) u2).put (some 21) u3).put (some 22) u4).eval (.tmp 22) = u4 := fun u0 u1 u2 u3 u4 => put_eq (by rw [put_sz, put_sz, put_sz, put_sz]; omega)
  refine wpl_call hf (R := fun e w' => e = .returned (.int .i64 (szL (L - ((n : Int) + sumT T.tot (xs.take i))) (T.tot x))) ∧ Below W.heap.size W w') ?_ ?_
  · have hc := hC us x W (L - ((n : Int) + sumT T.tot (xs.take i))) (T.frm hrep (Fr.of hpl)) (by omega) (by omega)
    simpa only [List.map_toArray, List.map_cons, List.map_nil, e0, e1, vA] using hc
  rintro e V ⟨rfl, hbl⟩
  refine ⟨_, rfl, ?_⟩
  have hV := hpl.trans (hbl.mono hpl.size)
  refine wpl_assign (wpl_nil ?_)
  rw [put_eq (by rw [put_sz, put_sz, put_sz, put_sz, put_sz]; omega)]
  have hsz : ∀ u0 u1 u2 u3 u4 u5 u6 : Value, (((((((a.put (some 18) u0).put (some 19) u1).put (some 20) u2).put (some 21) u3).put (some 22) u4).put (some 23) u5).put (some 1) u6).tmps.size = N := fun u0 u1 u2 u3 u4 u5 u6 => by rw [put_sz, put_sz, put_sz, put_sz, put_sz, put_sz, put_sz]; exact hz
  have hdf : ∀ u0 u1 u2 u3 u4 u5 u6 : Value, (((((((a.put (some 18) u0).put (some 19) u1).put (some 20) u2).put (some 21) u3).put (some 22) u4).put (some 23) u5).put (some 1) u6).defers = [] := fun u0 u1 u2 u3 u4 u5 u6 => put_df.trans (put_df.trans (put_df.trans (put_df.trans (put_df.trans (put_df.trans (put_df.trans h.df))))))
  have h5 : ∀ u0 u1 u2 u3 u4 u5 u6 : Value, (((((((a.put (some 18) u0).put (some 19) u1).put (some 20) u2).put (some 21) u3).put (some 22) u4).put (some 23) u5).put (some 1) u6).eval (.tmp 5) = .int .i64 i := fun u0 u1 u2 u3 u4 u5 u6 => (put_ne (by omega)).trans ((put_ne (by omega)).trans ((put_ne (by omega)).trans ((put_ne (by omega)).trans ((put_ne (by omega)).trans ((put_ne (by omega)).trans ((put_ne (by omega)).trans h.hi))))))
  have h6 : ∀ u0 u1 u2 u3 u4 u5 u6 : Value, (((((((a.put (some 18) u0).put (some 19) u1).put (some 20) u2).put (some 21) u3).put (some 22) u4).put (some 23) u5).put (some 1) u6).eval (.tmp 0) = .slice (some ⟨p, q, none⟩) n c := fun u0 u1 u2 u3 u4 u5 u6 => (put_ne (by omega)).trans ((put_ne (by omega)).trans ((put_ne (by omega)).trans ((put_ne (by omega)).trans ((put_ne (by omega)).trans ((put_ne (by omega)).trans ((put_ne (by omega)).trans h.s))))))
  refine z_cond (N := N) (put_eq (by rw [put_sz, put_sz, put_sz, put_sz, put_sz, put_sz]; omega)) (hsz ..) (by omega) ?_ ?_
  · intro hv a' g1 g2 g3
    refine hR a' V g1 (g2.trans (hdf ..)) g3 hV ?_
    intro hq
    rw [szL_yes (by omega)] at hv
    omega
  · intro hv
    have hq : T.tot x ≤ L - ((n : Int) + sumT T.tot (xs.take i)) := by
      by_cases hq : T.tot x ≤ L - ((n : Int) + sumT T.tot (xs.take i))
      · exact hq
      · rw [szL_no hq] at hv; omega
    rw [szL_yes hq]
    refine hQ _ V ⟨(put_ne (by omega)).trans ((put_ne (by omega)).trans (h5 ..)), (put_ne (by omega)).trans ((put_ne (by omega)).trans (h6 ..)), put_df.trans (put_df.trans (hdf ..)), by rw [put_sz, put_sz]; exact hsz .., ?_, hV, by omega⟩
    show Act.eval _ _ = Value.int .i64 (L - ((n : Int) + sumT T.tot (xs.take (i + 1))))
    refine (put_ne (by omega)).trans ((put_ne (by omega)).trans ((put_eq (by rw [put_sz, put_sz, put_sz, put_sz, put_sz, put_sz]; omega)).trans ?_))
    congr 1
    omega
/-- A round: a text is reckoned. -/
theorem body_szT {N n c : Nat} {tA eA tx ti tj tm tn : TypeId} {w : World} {o : Option Addr} {xs : List ByteArray} {L : Int} (hN : 27 < N) (hA : P.underlying tA = some (.slice eA)) (hkA : (P.info? eA).map (·.size) = some 1) (htx : Sca P tx) (hs : P.underlying tx = some .string)
    (hn : n = xs.length) (hr : ∀ j x, xs[j]? = some x → At cStr w 0 o j x) (hL : L ≤ 1048576)
    (i : Nat) (a : Act) (W : World) (hi : i < n) (h : Inv o n c 5 N (XZ cStr n L xs) (RoZ cStr w n L xs) i a W) (Q' : Exit → Act → World → Prop) (hQ : ∀ a' W', Mid o n c 5 N (XZ cStr n L xs) (RoZ cStr w n L xs) i a' W' → Q' .normal a' W') (hR : ∀ a' W', a'.tmps.size = N → a'.defers = [] → a'.eval (.tmp 4) = .int .i64 (-1) → Below w.heap.size w W' → ¬ (n : Int) + sumT cStr.tot xs ≤ L → Q' .ret a' W') :
    Code.wp P ((Code.region r7 #[⟨some 18, .move (.tmp 1), t0, s0, f0, none⟩, ⟨some 19, .move (.tmp 0), t1, s1, f1, none⟩, ⟨some 20, .move (.tmp 5), t2, s2, f2, none⟩, ⟨some 21, .indexAddr tA (.tmp 19) (.tmp 20), t3, s3, f3, none⟩, ⟨some 22, .load tx (.tmp 21), t4, s4, f4, none⟩, ⟨some 23, .call { callee := .builtin .len, args := #[.tmp 22], argTypes := #[tx] }, t5, s5, f5, none⟩, ⟨some 24, .binOp .sub tm (.tmp 18) (.tmp 23) tn, t6, s6, f6, none⟩, ⟨some 1, .assign (.tmp 24), t7, s7, f7, none⟩] false).seq
      ((Code.region r8 #[⟨some 25, .move (.tmp 1), t8, s8, f8, none⟩, ⟨some 26, .binOp .lss ti (.tmp 25) (.const (.int .i64 0)) tj, t9, s9, f9, none⟩] false).seq (Code.cond (.tmp 26) ((Code.region r9 #[⟨some 4, .assign (.const (.int .i64 (-1))), t10, s10, f10, none⟩] false).seq Code.ret) Code.skip))) Q' a W := by
  have hz := h.sz
  obtain ⟨x, hxi⟩ : ∃ x, xs[i]? = some x := ⟨_, List.getElem?_eq_getElem (by omega)⟩
  obtain ⟨p, q, us, rfl, _, hp, hseg, rfl, hxz⟩ := hr i x hxi
  have hpl := h.d.bl
  have hge := h.d.ge
  have h1 : a.eval (.tmp 1) = .int .i64 (L - ((n : Int) + sumT cStr.tot (xs.take i))) := h.x
  have hst := sumT_take (f := cStr.tot) hxi
  have hle := sumT_le cStr.nn xs (i + 1)
  have hn0 := sumT_nn cStr.nn (xs.take i)
  have htx2 : cStr.tot x = (x.size : Int) := rfl
  have hsg := (hseg.frm (Fr.of hpl) (Nat.zero_le _) hp).one
  refine wp_seq (wp_region_list ?_)
  refine wpl_move ?_
  rw [h1]
  refine wpl_move ?_
  rw [put_ne (by omega), h.s]
  refine wpl_move ?_
  rw [put_ne (by omega), put_ne (by omega), h.hi]
  refine wpl_index hA hkA ((put_ne (by omega)).trans (put_eq (by rw [put_sz]; omega))) (put_eq (by rw [put_sz, put_sz]; omega)) hi ?_
  refine wpl_loadS rfl tx (.tmp 21) rfl (put_eq (by rw [put_sz, put_sz, put_sz]; omega)) (.string x) htx hsg ?_
  refine wpl_lens hs (put_eq (by rw [put_sz, put_sz, put_sz, put_sz]; omega)) ?_
  refine wpl_bin (u := .int .i64 (L - ((n : Int) + sumT cStr.tot (xs.take i)))) (v := .int .i64 x.size) ((put_ne (by omega)).trans ((put_ne (by omega)).trans ((put_ne (by omega)).trans ((put_ne (by omega)).trans ((put_ne (by omega)).trans (put_eq (by omega))))))) (put_eq (by rw [put_sz, put_sz, put_sz, put_sz, put_sz]; omega)) (run_sub W (by omega) (by omega)) ?_
  refine wpl_assign (wpl_nil ?_)
  rw [put_eq (by rw [put_sz, put_sz, put_sz, put_sz, put_sz, put_sz]; omega)]
  have hsz : ∀ u0 u1 u2 u3 u4 u5 u6 u7 : Value, ((((((((a.put (some 18) u0).put (some 19) u1).put (some 20) u2).put (some 21) u3).put (some 22) u4).put (some 23) u5).put (some 24) u6).put (some 1) u7).tmps.size = N := fun u0 u1 u2 u3 u4 u5 u6 u7 => by rw [put_sz, put_sz, put_sz, put_sz, put_sz, put_sz, put_sz, put_sz]; exact hz
  have hdf : ∀ u0 u1 u2 u3 u4 u5 u6 u7 : Value, ((((((((a.put (some 18) u0).put (some 19) u1).put (some 20) u2).put (some 21) u3).put (some 22) u4).put (some 23) u5).put (some 24) u6).put (some 1) u7).defers = [] := fun u0 u1 u2 u3 u4 u5 u6 u7 => put_df.trans (put_df.trans (put_df.trans (put_df.trans (put_df.trans (put_df.trans (put_df.trans (put_df.trans h.df)))))))
  have h5 : ∀ u0 u1 u2 u3 u4 u5 u6 u7 : Value, ((((((((a.put (some 18) u0).put (some 19) u1).put (some 20) u2).put (some 21) u3).put (some 22) u4).put (some 23) u5).put (some 24) u6).put (some 1) u7).eval (.tmp 5) = .int .i64 i := fun u0 u1 u2 u3 u4 u5 u6 u7 => (put_ne (by omega)).trans ((put_ne (by omega)).trans ((put_ne (by omega)).trans ((put_ne (by omega)).trans ((put_ne (by omega)).trans ((put_ne (by omega)).trans ((put_ne (by omega)).trans ((put_ne (by omega)).trans h.hi)))))))
  have h6 : ∀ u0 u1 u2 u3 u4 u5 u6 u7 : Value, ((((((((a.put (some 18) u0).put (some 19) u1).put (some 20) u2).put (some 21) u3).put (some 22) u4).put (some 23) u5).put (some 24) u6).put (some 1) u7).eval (.tmp 0) = .slice (some ⟨p, q, none⟩) n c := fun u0 u1 u2 u3 u4 u5 u6 u7 => (put_ne (by omega)).trans ((put_ne (by omega)).trans ((put_ne (by omega)).trans ((put_ne (by omega)).trans ((put_ne (by omega)).trans ((put_ne (by omega)).trans ((put_ne (by omega)).trans ((put_ne (by omega)).trans h.s)))))))
  refine z_cond (N := N) (put_eq (by rw [put_sz, put_sz, put_sz, put_sz, put_sz, put_sz, put_sz]; omega)) (hsz ..) (by omega) ?_ ?_
  · intro hv a' g1 g2 g3
    exact hR a' W g1 (g2.trans (hdf ..)) g3 hpl (by omega)
  · intro hv
    refine hQ _ W ⟨(put_ne (by omega)).trans ((put_ne (by omega)).trans (h5 ..)), (put_ne (by omega)).trans ((put_ne (by omega)).trans (h6 ..)), put_df.trans (put_df.trans (hdf ..)), by rw [put_sz, put_sz]; exact hsz .., ?_, hpl, by omega⟩
    show Act.eval _ _ = Value.int .i64 (L - ((n : Int) + sumT cStr.tot (xs.take (i + 1))))
    refine (put_ne (by omega)).trans ((put_ne (by omega)).trans ((put_eq (by rw [put_sz, put_sz, put_sz, put_sz, put_sz, put_sz, put_sz]; omega)).trans ?_))
    congr 1
    omega
end

end Go.Proofs.YtjiplphfpkhmpaaGreat
