/-
  Functions that look at two rows, or reckon a row's size.
-/
import Derived.Test.YtjiplphfpkhmpaaGreatE8
import Derived.Deep.RegionHeld3
namespace Go.Proofs.YtjiplphfpkhmpaaGreat
open Go.RowKit

section
variable {P : Program} {ops : Array Oper} {Q : Exit → Act → World → Prop} {S : World → Prop} {fuel : Nat} {listed : Array Bool} {a : Act} {w : World}

/-- One operation of a drawn region, taken first. -/
theorem dr_val (i d : Nat) {op : Op} {ty : TypeId} {ps : String} {af : Array Edge} {v : Value} (hi : ops[i]? = some (⟨some d, op, ty, ps, af, none⟩ : Oper)) (hb : (Region.noSelect ops && (Region.free .any ops listed i && (Region.ready .any ops listed).contains i)) = true) (hQ : ∀ c a d v w, Q (.panic c) (a.put d v) w → Q (.panic c) a w)
    (hy : ∀ w, S w → (execOp a.eval (⟨some d, op, ty, ps, af, none⟩ : Oper)).run P w = .ok (.value v) w) (hS : S w)
    (h : wpAnyH P .any ops Q S fuel (listed.setIfInBounds i true) (a.put (some d) v) w) : wpAnyH P .any ops Q S (fuel + 1) listed a w := by
  rw [Bool.and_eq_true, Bool.and_eq_true] at hb
  exact wpAnyH_take hi hb.1 hb.2.1 hb.2.2 (fun c a w hq => hQ c a _ v w hq) (Or.inl ⟨by simp [Region.wanted], hy⟩) hS h
/-- A call that alone may come. -/
theorem dr_call (i d : Nat) {f : FuncId} {xs : Array Operand} {ats : Array TypeId} {ty : TypeId} {ps : String} {af : Array Edge} {R : Ending → World → Prop} (hi : ops[i]? = some (⟨some d, .call { callee := .value (.func f), args := xs, argTypes := ats }, ty, ps, af, none⟩ : Oper)) (hr : Region.ready .any ops listed = [i]) (hf : Fn P f) (h : Calls P f (xs.map a.eval) w R)
    (k : ∀ e V, R e V → ∃ v, e = .returned v ∧ S V ∧ wpAnyH P .any ops Q S fuel (listed.setIfInBounds i true) (a.put (some d) v) V) : wpAnyH P .any ops Q S (fuel + 1) listed a w := by
  refine wpAnyH_ready hr (by simp) (AllReadyH.cons hi (fun K hK => ?_) AllReadyH.nil)
  rw [if_pos (by simp [Region.wanted])]
  unfold Oper.wp
  rw [execOp_call_go, show (#[] ++ xs.map a.eval ++ #[] : Array Value) = xs.map a.eval by simp, hf.run]
  show Calls P f _ w _
  refine h.mono ?_
  intro e V hr
  obtain ⟨v, rfl, hS, hk⟩ := k e V hr
  exact hK.out _ _ hS (fun _ => hk)
theorem run_index {x z : Operand} {t e : TypeId} {p o n c i k : Nat} {d : Option Tmp} {ty : TypeId} {ps : String} {af : Array Edge} (ht : P.underlying t = some (.slice e)) (hk : (P.info? e).map (·.size) = some k) (hx : a.eval x = .slice (some ⟨p, o, none⟩) n c) (hz : a.eval z = .int .i64 i) (hi : i < n) (V : World) :
    (execOp a.eval (⟨d, .indexAddr t x z, ty, ps, af, none⟩ : Oper)).run P V = .ok (.value (.pointer (some ⟨p, o + i * k, none⟩))) V := by
  cases hq : P.info? e with
  | none => simp [hq] at hk
  | some j =>
    have hz' : j.size = k := by simpa [hq] using hk
    have h0 : (0 : Int) ≤ (i : Int) ∧ (i : Int) < (n : Int) := by omega
    simp [execOp, Instr.indexAt, asIntOf, Sem.run_bind, run_underlying ht, hx, hz, sizeOf, typeInfo, hq, hz', add_E, hi]
end

section
variable {P : Program} {α : Type} {T : Cd α} {t0 t1 t2 t3 t4 t5 t6 t7 t8 t9 : TypeId} {t10 t11 t12 t13 t14 t15 t16 t17 t18 t19 t20 t21 t22 t23 t24 t25 : TypeId} {s0 s1 s2 s3 s4 s5 s6 s7 s8 s9 s10 s11 s12 s13 s14 s15 s16 s17 s18 s19 s20 s21 s22 s23 s24 s25 : String} {f0 f1 f2 f3 f4 f5 f6 f7 f8 f9 f10 f11 f12 f13 f14 f15 f16 f17 f18 f19 f20 f21 f22 f23 f24 f25 : Array Edge} {r0 r1 r2 r3 r4 r5 r6 r7 r8 b0 b1 : Nat}

/-- Ahead of the loop that looks at two rows, and behind it. -/
theorem row_eq {body c0 : Code} {fn : Func} {N : Nat} {tA ti tj tk tm tp tq : TypeId} {cv : Value} (hN : fn.ntmps = N) (hd : 25 < N) (hres : fn.results = #[.tmp 4]) (hA : (match P.underlying tA with | some (.slice _) => true | _ => false) = true)
    (w : World) (o o' : Option Addr) (n c c' : Nat) (hn : n < 9223372036854775807)
    (hb : ∀ i a W, i < n → Inv o n c 5 N (fun _ a => a.eval (.tmp 1) = .slice o' n c') (fun _ W => Below w.heap.size w W) i a W → ∀ Q' : Exit → Act → World → Prop, (∀ a' W', Mid o n c 5 N (fun _ a => a.eval (.tmp 1) = .slice o' n c') (fun _ W => Below w.heap.size w W) i a' W' → Q' .normal a' W') → (∀ c a d v w, Q' (.panic c) (a.put d v) w → Q' (.panic c) a w) → body.wp P Q' a W) :
    Code.wp P ((Code.region r0 #[⟨some 4, .assign (.const cv), t0, s0, f0, none⟩] false).seq ((((Code.region r1 #[⟨some 6, .move (.tmp 0), t1, s1, f1, none⟩, ⟨some 7, .call { callee := .builtin .len, args := #[.tmp 6], argTypes := #[tA] }, t2, s2, f2, none⟩, ⟨some 8, .move (.tmp 1), t3, s3, f3, none⟩, ⟨some 9, .call { callee := .builtin .len, args := #[.tmp 8], argTypes := #[tA] }, t4, s4, f4, none⟩, ⟨some 10, .binOp .neq tp (.tmp 7) (.tmp 9) tq, t5, s5, f5, none⟩] false).seq (Code.cond (.tmp 10) c0 .skip))).seq
      (((Code.region r2 #[⟨some 5, .assign (.const (.int .i64 0)), t6, s6, f6, none⟩] false).seq (Code.block b0 (Code.loop
      (((Code.region r3 #[⟨some 11, .move (.tmp 5), t7, s7, f7, none⟩, ⟨some 12, .move (.tmp 0), t8, s8, f8, none⟩, ⟨some 13, .call { callee := .builtin .len, args := #[.tmp 12], argTypes := #[tA] }, t9, s9, f9, none⟩, ⟨some 14, .binOp .lss ti (.tmp 11) (.tmp 13) tj, t10, s10, f10, none⟩] false).seq (Code.cond (.tmp 14) Code.skip (Code.exit b0))).seq
        ((Code.block b1 body).seq (Code.region r4 #[⟨some 15, .move (.tmp 5), t11, s11, f11, none⟩, ⟨some 16, .binOp .add tk (.tmp 15) (.const (.int .i64 1)) tm, t12, s12, f12, none⟩, ⟨some 5, .assign (.tmp 16), t13, s13, f13, none⟩] false)))))).seq
      ((Code.region r8 #[⟨some 4, .assign (.const (.bool true)), t14, s14, f14, none⟩] false).seq Code.ret))))
      (bodyPost P fn fun e w' => e = .returned (.bool true) ∧ Below w.heap.size w w') ⟨#[.slice o n c, .slice o' n c'] ++ Array.replicate (fn.ntmps - (#[.slice o n c, .slice o' n c'] : Array Value).size) undef, []⟩ w := by
  have hsz : (⟨#[.slice o n c, .slice o' n c'] ++ Array.replicate (fn.ntmps - (#[.slice o n c, .slice o' n c'] : Array Value).size) undef, []⟩ : Act).tmps.size = N := by rw [frame2_z (by omega), hN]
  have hdf : (⟨#[.slice o n c, .slice o' n c'] ++ Array.replicate (fn.ntmps - (#[.slice o n c, .slice o' n c'] : Array Value).size) undef, []⟩ : Act).defers = [] := rfl
  have h00 : (⟨#[.slice o n c, .slice o' n c'] ++ Array.replicate (fn.ntmps - (#[.slice o n c, .slice o' n c'] : Array Value).size) undef, []⟩ : Act).eval (.tmp 0) = .slice o n c := frame2_0
  have h01 : (⟨#[.slice o n c, .slice o' n c'] ++ Array.replicate (fn.ntmps - (#[.slice o n c, .slice o' n c'] : Array Value).size) undef, []⟩ : Act).eval (.tmp 1) = .slice o' n c' := frame2_1
  generalize (⟨#[.slice o n c, .slice o' n c'] ++ Array.replicate (fn.ntmps - (#[.slice o n c, .slice o' n c'] : Array Value).size) undef, []⟩ : Act) = a at *
  refine wp_seq (wp_region_list (wpl_assign (wpl_nil (wp_seq (wp_seq (wp_region_list ?_))))))
  refine wpl_move ?_
  rw [put_ne (by omega), h00]
  refine wpl_len hA (put_eq (by rw [put_sz]; omega)) ?_
  refine wpl_move ?_
  rw [put_ne (by omega), put_ne (by omega), put_ne (by omega), h01]
  refine wpl_len hA (put_eq (by rw [put_sz, put_sz, put_sz]; omega)) ?_
  refine wpl_bin (u := .int .i64 n) (v := .int .i64 n) ((put_ne (by omega)).trans ((put_ne (by omega)).trans (put_eq (by rw [put_sz, put_sz]; omega)))) (put_eq (by rw [put_sz, put_sz, put_sz, put_sz]; omega)) (run_neqi w) (wpl_nil ?_)
  have hb0 : ((n : Int) != (n : Int)) = false := by simp
  rw [hb0]
  refine wp_cond_false (put_eq (by rw [put_sz, put_sz, put_sz, put_sz, put_sz]; omega)) (wp_skip ?_)
  refine row_loop (o := o) (n := n) (c := c) (ci := 5) (N := N) (X := fun _ a => a.eval (.tmp 1) = .slice o' n c') (D := fun _ W => Below w.heap.size w W) (fun i a t v h ht => (put_ne (by omega)).trans h) (fun i a v h => (put_ne (by omega)).trans h) (by omega) (by omega) hA hn
    ((put_ne (by omega)).trans ((put_ne (by omega)).trans ((put_ne (by omega)).trans ((put_ne (by omega)).trans ((put_ne (by omega)).trans ((put_ne (by omega)).trans h01)))))) (Below.refl _ w)
    ((put_ne (by omega)).trans ((put_ne (by omega)).trans ((put_ne (by omega)).trans ((put_ne (by omega)).trans ((put_ne (by omega)).trans ((put_ne (by omega)).trans h00)))))) (put_df.trans (put_df.trans (put_df.trans (put_df.trans (put_df.trans (put_df.trans hdf)))))) (by rw [put_sz, put_sz, put_sz, put_sz, put_sz, put_sz]; exact hsz) (fun i a W hi h Q' h1 _ h2 => hb i a W hi h Q' h1 h2) pan_body ?_
  intro a W h
  have hz' := h.sz
  refine wp_seq (wp_region_list (wpl_assign (wpl_nil (wp_ret ?_))))
  exact z_ret hres (put_eq (by omega)) (put_df.trans h.df) ⟨rfl, h.d⟩

/-- A round: two are looked at by a call. -/
theorem body_eqC {N n c c' k : Nat} {tA eA tx tb : TypeId} {ats : Array TypeId} {f : FuncId} {c1 : Code} {w : World} {o o' : Option Addr} {xs : List α} (hm : P.follows .mixedOrders = true) (hN : 26 < N) (hA : P.underlying tA = some (.slice eA)) (hkA : (P.info? eA).map (·.size) = some k) (hk : T.k = k) (htx : Agg P tx k)
    (hf : Fn P f) (hC : EqC P T vA f) (hn : n = xs.length) (hr : ∀ j x, xs[j]? = some x → At T w 0 o j x) (hr' : ∀ j x, xs[j]? = some x → At T w 0 o' j x) (hx : ∀ x ∈ xs, T.tot x ≤ 1048576)
    (i : Nat) (a : Act) (W : World) (hi : i < n) (h : Inv o n c 5 N (fun _ a => a.eval (.tmp 1) = .slice o' n c') (fun _ W => Below w.heap.size w W) i a W) (Q' : Exit → Act → World → Prop) (hQ : ∀ a' W', Mid o n c 5 N (fun _ a => a.eval (.tmp 1) = .slice o' n c') (fun _ W => Below w.heap.size w W) i a' W' → Q' .normal a' W') (hpn : ∀ c a d v w, Q' (.panic c) (a.put d v) w → Q' (.panic c) a w) :
    Code.wp P ((Code.region r6 #[⟨some 17, .move (.tmp 0), t0, s0, #[], none⟩, ⟨some 18, .move (.tmp 5), t1, s1, #[], none⟩, ⟨some 19, .indexAddr tA (.tmp 17) (.tmp 18), t2, s2, #[⟨0, .data⟩, ⟨1, .data⟩], none⟩, ⟨some 20, .load tx (.tmp 19), t3, s3, #[⟨2, .data⟩], none⟩, ⟨some 21, .move (.tmp 1), t4, s4, #[], none⟩, ⟨some 22, .move (.tmp 5), t5, s5, #[], none⟩, ⟨some 23, .indexAddr tA (.tmp 21) (.tmp 22), t6, s6, #[⟨4, .data⟩, ⟨5, .data⟩], none⟩, ⟨some 24, .load tx (.tmp 23), t7, s7, #[⟨6, .data⟩], none⟩, ⟨some 25, .call { callee := .value (.func f), args := #[.tmp 20, .tmp 24], argTypes := ats }, t8, s8, #[⟨3, .data⟩, ⟨7, .data⟩], none⟩, ⟨some 26, .unOp .not tb (.tmp 25), t9, s9, #[⟨8, .data⟩], none⟩] true).seq (Code.cond (.tmp 26) c1 .skip)) Q' a W := by
  have hz := h.sz
  obtain ⟨x, hxi⟩ : ∃ x, xs[i]? = some x := ⟨_, List.getElem?_eq_getElem (by omega)⟩
  obtain ⟨p, q, us, rfl, _, hp, hseg, hrep⟩ := hr i x hxi
  obtain ⟨p', q', vs, rfl, _, hp', hseg', hrep'⟩ := hr' i x hxi
  have hul := (T.len hrep).trans hk
  have hvl := (T.len hrep').trans hk
  have hpl : Below w.heap.size w W := h.d
  have h1 := h.x
  rw [hk] at hseg hseg'
  refine wp_seq ?_
  have hpn2 : ∀ c a d v w, (Exit.then (fun a w => Code.wp P (Code.cond (.tmp 26) c1 .skip) Q' a w) Q') (.panic c) (Act.put a d v) w → (Exit.then (fun a w => Code.wp P (Code.cond (.tmp 26) c1 .skip) Q' a w) Q') (.panic c) a w := fun c a d v w hq => hpn c a d v w hq
  refine wp_region_held_drew (S := fun V => Below w.heap.size w V) hm hpl.drew (fun _ => ?_)
  have sg : ∀ V, Below w.heap.size w V → Seg V p (q + i * k) us := fun V hV => hseg.frm (Fr.of hV) (Nat.zero_le _) hp
  have sg' : ∀ V, Below w.heap.size w V → Seg V p' (q' + i * k) vs := fun V hV => hseg'.frm (Fr.of hV) (Nat.zero_le _) hp'
  have ld : ∀ {a : Act} {d : Nat} {ty : TypeId} {ps : String} {af : Array Edge} {t : Nat} {p o : Nat} {us : List Value}, a.eval (.tmp t) = .pointer (some ⟨p, o, none⟩) → us.length = k → (∀ V, Below w.heap.size w V → Seg V p o us) → ∀ V, Below w.heap.size w V → (execOp a.eval (⟨some d, .load tx (.tmp t), ty, ps, af, none⟩ : Oper)).run P V = .ok (.value (.agg us.toArray)) V := by
    intro a d ty ps af t p o us ha hl hs V hV
    rw [← hl] at htx
    simp only [execOp, ha, Instr.loadAt, Instr.sureAddr, Sem.run_bind, Sem.run_pure, Result.andThen_ok, run_loadE V htx (hs V hV)]
  refine dr_val 0 17 (v := .slice (some ⟨p, q, none⟩) n c) rfl (by kernel_rfl) hpn2 (fun V _ => by rw [← h.s]; rfl) hpl.drew ?_
  refine dr_val 1 18 (v := .int .i64 i) rfl (by kernel_rfl) hpn2 (fun V _ => by show Result.ok _ V = _; rw [put_ne (by omega), h.hi]) hpl.drew ?_
  refine dr_val 2 19 (v := .pointer (some ⟨p, q + i * k, none⟩)) rfl (by kernel_rfl) hpn2 (fun V _ => run_index hA hkA ((put_ne (by omega)).trans (put_eq (by omega))) (put_eq (by rw [put_sz]; omega)) hi V) hpl.drew ?_
  refine dr_val 3 20 (v := .agg us.toArray) rfl (by kernel_rfl) hpn2 (ld (put_eq (by rw [put_sz, put_sz]; omega)) hul sg) hpl.drew ?_
  refine dr_val 4 21 (v := .slice (some ⟨p', q', none⟩) n c') rfl (by kernel_rfl) hpn2 (fun V _ => by show Result.ok _ V = _; rw [put_ne (by omega), put_ne (by omega), put_ne (by omega), put_ne (by omega), h1]) hpl.drew ?_
  refine dr_val 5 22 (v := .int .i64 i) rfl (by kernel_rfl) hpn2 (fun V _ => by show Result.ok _ V = _; rw [put_ne (by omega), put_ne (by omega), put_ne (by omega), put_ne (by omega), put_ne (by omega), h.hi]) hpl.drew ?_
  refine dr_val 6 23 (v := .pointer (some ⟨p', q' + i * k, none⟩)) rfl (by kernel_rfl) hpn2 (fun V _ => run_index hA hkA ((put_ne (by omega)).trans (put_eq (by rw [put_sz, put_sz, put_sz, put_sz]; omega))) (put_eq (by rw [put_sz, put_sz, put_sz, put_sz, put_sz]; omega)) hi V) hpl.drew ?_
  refine dr_val 7 24 (v := .agg vs.toArray) rfl (by kernel_rfl) hpn2 (ld (put_eq (by rw [put_sz, put_sz, put_sz, put_sz, put_sz, put_sz]; omega)) hvl sg') hpl.drew ?_
  have e0 : ∀ u0 u1 u2 u3 u4 u5 u6 u7 : Value, ((((((((a.put (some 17) u0).put (some 18) u1).put (some 19) u2).put (some 20) u3).put (some 21) u4).put (some 22) u5).put (some 23) u6).put (some 24) u7).eval (.tmp 20) = u3 := fun u0 u1 u2 u3 u4 u5 u6 u7 => (put_ne (by omega)).trans ((put_ne (by omega)).trans ((put_ne (by omega)).trans ((put_ne (by omega)).trans (put_eq (by rw [put_sz, put_sz, put_sz]; omega)))))
  have e1 : ∀ u0 u1 u2 u3 u4 u5 u6 u7 : Value, ((((((((a.put (some 17) u0).put (some 18) u1).put (some 19) u2).put (some 20) u3).put (some 21) u4).put (some 22) u5).put (some 23) u6).put (some 24) u7).eval (.tmp 24) = u7 := fun u0 u1 u2 u3 u4 u5 u6 u7 => put_eq (by rw [put_sz, put_sz, put_sz, put_sz, put_sz, put_sz, put_sz]; omega)
  refine dr_call 8 25 (R := fun e w' => e = .returned (.bool true) ∧ Below W.drew.heap.size W.drew w') rfl (by kernel_rfl) hf ?_ ?_
  · have hc := hC us vs x W.drew (T.frm hrep (Fr.of hpl.drew)) (T.frm hrep' (Fr.of hpl.drew)) (hx x (List.mem_of_getElem? hxi))
    simpa only [List.map_toArray, List.map_cons, List.map_nil, e0, e1, vA] using hc
  rintro e V ⟨rfl, hbl⟩
  have hV : Below w.heap.size w V := hpl.drew.trans (hbl.mono hpl.drew.size)
  refine ⟨_, rfl, hV, ?_⟩
  refine dr_val 9 26 (v := .bool false) rfl (by kernel_rfl) hpn2 (fun V _ => ?_) hV ?_
  · have e5 : ∀ u0 u1 u2 u3 u4 u5 u6 u7 : Value, (((((((((a.put (some 17) u0).put (some 18) u1).put (some 19) u2).put (some 20) u3).put (some 21) u4).put (some 22) u5).put (some 23) u6).put (some 24) u7).put (some 25) (.bool true)).eval (.tmp 25) = .bool true := fun u0 u1 u2 u3 u4 u5 u6 u7 => put_eq (by rw [put_sz, put_sz, put_sz, put_sz, put_sz, put_sz, put_sz, put_sz]; omega)
    simp [execOp, e5, Op.unary]
  refine ⟨by kernel_rfl, ?_⟩
  refine wp_cond_false (put_eq (by rw [put_sz, put_sz, put_sz, put_sz, put_sz, put_sz, put_sz, put_sz, put_sz]; omega)) (wp_skip (hQ _ V ⟨?_, ?_, ?_, ?_, ?_, hV⟩))
  · exact (put_ne (by omega)).trans ((put_ne (by omega)).trans ((put_ne (by omega)).trans ((put_ne (by omega)).trans ((put_ne (by omega)).trans ((put_ne (by omega)).trans ((put_ne (by omega)).trans ((put_ne (by omega)).trans ((put_ne (by omega)).trans ((put_ne (by omega)).trans h.hi)))))))))
  · exact (put_ne (by omega)).trans ((put_ne (by omega)).trans ((put_ne (by omega)).trans ((put_ne (by omega)).trans ((put_ne (by omega)).trans ((put_ne (by omega)).trans ((put_ne (by omega)).trans ((put_ne (by omega)).trans ((put_ne (by omega)).trans ((put_ne (by omega)).trans h.s)))))))))
  · exact put_df.trans (put_df.trans (put_df.trans (put_df.trans (put_df.trans (put_df.trans (put_df.trans (put_df.trans (put_df.trans (put_df.trans h.df)))))))))
  · exact put_sz.trans (put_sz.trans (put_sz.trans (put_sz.trans (put_sz.trans (put_sz.trans (put_sz.trans (put_sz.trans (put_sz.trans (put_sz.trans hz)))))))))
  · exact (put_ne (by omega)).trans ((put_ne (by omega)).trans ((put_ne (by omega)).trans ((put_ne (by omega)).trans ((put_ne (by omega)).trans ((put_ne (by omega)).trans ((put_ne (by omega)).trans ((put_ne (by omega)).trans ((put_ne (by omega)).trans ((put_ne (by omega)).trans h1)))))))))
end

end Go.Proofs.YtjiplphfpkhmpaaGreat
