/-
  Functions that copy a row.
-/
import Derived.Test.YtjiplphfpkhmpaaGreatE7
namespace Go.Proofs.YtjiplphfpkhmpaaGreat
open Go.RowKit

section
variable {P : Program} {α : Type} {T : Cd α} {t0 t1 t2 t3 t4 t5 t6 t7 t8 t9 : TypeId} {t10 t11 t12 t13 t14 t15 t16 t17 t18 t19 t20 t21 t22 t23 t24 t25 : TypeId} {s0 s1 s2 s3 s4 s5 s6 s7 s8 s9 s10 s11 s12 s13 s14 s15 s16 s17 s18 s19 s20 s21 s22 s23 s24 s25 : String} {f0 f1 f2 f3 f4 f5 f6 f7 f8 f9 f10 f11 f12 f13 f14 f15 f16 f17 f18 f19 f20 f21 f22 f23 f24 f25 : Array Edge} {r0 r1 r2 r3 r4 r5 r6 b0 b1 : Nat}

theorem pan_body {P : Program} {fn : Func} {R : Ending → World → Prop} : ∀ c a d v w, bodyPost P fn R (.panic c) (Act.put a d v) w → bodyPost P fn R (.panic c) a w := fun _ a d v _ h => ⟨(put_df (a := a) (d := d) (v := v)).symm.trans h.1, h.2⟩
theorem ev0 {a : Act} {v : Value} {x : Operand} : (a.put none v).eval x = a.eval x := rfl
/-- Ahead of the loop, and behind it. -/
theorem row_to {body : Code} {fn : Func} {N k : Nat} {tA tO eO ti tj tk tm : TypeId} {d22 : Nat} (hN : fn.ntmps = N) (hd : 13 < d22 ∧ d22 < N) (hres : fn.results = #[.tmp 2]) (hA : (match P.underlying tA with | some (.slice _) => true | _ => false) = true) (hO : P.underlying tO = some (.slice eO)) (hz : mkB P eO k = true) (hk : T.k = k)
    (w : World) (o : Option Addr) (n c : Nat) (xs : List α) (hn : n = xs.length) (hx : n ≤ 1048576)
    (hb : ∀ i a W, i < n → Inv o n c 4 N (fun _ a => a.eval (.tmp 3) = .slice (some ⟨w.heap.size, 0, none⟩) n n) (RoT T w n xs) i a W → ∀ Q' : Exit → Act → World → Prop, (∀ a' W', Mid o n c 4 N (fun _ a => a.eval (.tmp 3) = .slice (some ⟨w.heap.size, 0, none⟩) n n) (RoT T w n xs) i a' W' → Q' .normal a' W') → body.wp P Q' a W) :
    Code.wp P ((Code.region r0 #[⟨some 2, .assign (.const (.slice none 0 0)), t0, s0, f0, none⟩] false).seq ((Code.region r1 #[⟨some 5, .move (.tmp 0), t1, s1, f1, none⟩, ⟨some 6, .call { callee := .builtin .len, args := #[.tmp 5], argTypes := #[tA] }, t2, s2, f2, none⟩, ⟨some 7, .makeSlice tO (.tmp 6) (.tmp 6), t3, s3, f3, none⟩, ⟨some 3, .assign (.tmp 7), t4, s4, f4, none⟩] false).seq
      (((Code.region r2 #[⟨some 4, .assign (.const (.int .i64 0)), t5, s5, f5, none⟩] false).seq (Code.block b0 (Code.loop
      (((Code.region r3 #[⟨some 8, .move (.tmp 4), t6, s6, f6, none⟩, ⟨some 9, .move (.tmp 0), t7, s7, f7, none⟩, ⟨some 10, .call { callee := .builtin .len, args := #[.tmp 9], argTypes := #[tA] }, t8, s8, f8, none⟩, ⟨some 11, .binOp .lss ti (.tmp 8) (.tmp 10) tj, t9, s9, f9, none⟩] false).seq (Code.cond (.tmp 11) Code.skip (Code.exit b0))).seq
        ((Code.block b1 body).seq (Code.region r4 #[⟨some 12, .move (.tmp 4), t10, s10, f10, none⟩, ⟨some 13, .binOp .add tk (.tmp 12) (.const (.int .i64 1)) tm, t11, s11, f11, none⟩, ⟨some 4, .assign (.tmp 13), t12, s12, f12, none⟩] false)))))).seq
      ((Code.region r6 #[⟨some d22, .move (.tmp 3), t13, s13, f13, none⟩, ⟨some 2, .assign (.tmp d22), t14, s14, f14, none⟩] false).seq Code.ret))))
      (bodyPost P fn fun e w' => ∃ us, e = .returned (v1 us) ∧ (cRow T).rep w' w.heap.size us xs ∧ Below w.heap.size w w') ⟨#[.slice o n c] ++ Array.replicate (fn.ntmps - (#[.slice o n c] : Array Value).size) undef, []⟩ w := by
  obtain ⟨k0, k1⟩ := hd
  have hsz : (⟨#[.slice o n c] ++ Array.replicate (fn.ntmps - (#[.slice o n c] : Array Value).size) undef, []⟩ : Act).tmps.size = N := by
    rw [Array.size_append, Array.size_replicate]
    show 1 + (fn.ntmps - 1) = N
    omega
  have hdf : (⟨#[.slice o n c] ++ Array.replicate (fn.ntmps - (#[.slice o n c] : Array Value).size) undef, []⟩ : Act).defers = [] := rfl
  have h00 : (⟨#[.slice o n c] ++ Array.replicate (fn.ntmps - (#[.slice o n c] : Array Value).size) undef, []⟩ : Act).eval (.tmp 0) = .slice o n c := frame_0
  generalize (⟨#[.slice o n c] ++ Array.replicate (fn.ntmps - (#[.slice o n c] : Array Value).size) undef, []⟩ : Act) = a at *
  refine wp_seq (wp_region_list (wpl_assign (wpl_nil (wp_seq (wp_region_list ?_)))))
  refine wpl_move ?_
  rw [put_ne (by omega), h00]
  refine wpl_len hA (put_eq (by rw [put_sz]; omega)) ?_
  refine wpl_make hO hz (put_eq (by rw [put_sz, put_sz]; omega)) hx ?_
  intro V zs hzl hbox hbl
  refine wpl_assign (wpl_nil ?_)
  rw [put_eq (by rw [put_sz, put_sz, put_sz]; omega)]
  refine row_loop (o := o) (n := n) (c := c) (ci := 4) (N := N) (X := fun _ a => a.eval (.tmp 3) = .slice (some ⟨w.heap.size, 0, none⟩) n n) (D := RoT T w n xs) (fun i a t v h ht => (put_ne (by omega)).trans h) (fun i a v h => (put_ne (by omega)).trans h) (by omega) (by omega) hA (by omega) (put_eq (by rw [put_sz, put_sz, put_sz, put_sz]; omega)) ⟨hbl, [], zs, rfl, by rw [hzl, hk, Nat.sub_zero], hbox, fun j us x h => by cases h⟩
    ((put_ne (by omega)).trans ((put_ne (by omega)).trans ((put_ne (by omega)).trans ((put_ne (by omega)).trans ((put_ne (by omega)).trans h00))))) (put_df.trans (put_df.trans (put_df.trans (put_df.trans (put_df.trans hdf))))) (by rw [put_sz, put_sz, put_sz, put_sz, put_sz]; exact hsz) (fun i a W hi h Q' h1 _ _ => hb i a W hi h Q' h1) pan_body ?_
  intro a W h
  have hz' := h.sz
  refine wp_seq (wp_region_list (wpl_move (wpl_assign (wpl_nil (wp_ret ?_)))))
  rw [h.x, put_eq (by omega)]
  refine bodyPost_ret (v := v1 [.slice (some ⟨w.heap.size, 0, none⟩) n n]) ?_ (put_df.trans (put_df.trans h.df)) ⟨_, rfl, h.d.all hn (by omega), h.d.bl⟩
  have e4 : ((a.put (some d22) (.slice (some ⟨w.heap.size, 0, none⟩) n n)).put (some 2) (.slice (some ⟨w.heap.size, 0, none⟩) n n)).tmps.getD 2 undef = .slice (some ⟨w.heap.size, 0, none⟩) n n := put_eq (by rw [put_sz]; omega)
  have e5 : ((a.put (some d22) (.slice (some ⟨w.heap.size, 0, none⟩) n n)).put (some 2) (.slice (some ⟨w.heap.size, 0, none⟩) n n)).tmps[2]?.getD undef = .slice (some ⟨w.heap.size, 0, none⟩) n n := by simpa using e4
  simp [results, hres, e5, v1]

/-- A round: one is copied by a call. -/
theorem body_toC {N n c k : Nat} {tA eA tO eO tx tz : TypeId} {ats : Array TypeId} {f : FuncId} {w : World} {o : Option Addr} {xs : List α} (hN : 21 < N) (hA : P.underlying tA = some (.slice eA)) (hkA : (P.info? eA).map (·.size) = some k) (hO : P.underlying tO = some (.slice eO)) (hkO : (P.info? eO).map (·.size) = some k) (hk : T.k = k) (htx : Agg P tx k) (htz : (P.info? tz).map (·.size) = some k)
    (hf : Fn P f) (hC : ToC P T vA f) (hn : n = xs.length) (hr : ∀ j x, xs[j]? = some x → At T w 0 o j x) (hx : ∀ x ∈ xs, T.tot x ≤ 1048576)
    (i : Nat) (a : Act) (W : World) (hi : i < n) (h : Inv o n c 4 N (fun _ a => a.eval (.tmp 3) = .slice (some ⟨w.heap.size, 0, none⟩) n n) (RoT T w n xs) i a W) (Q' : Exit → Act → World → Prop) (hQ : ∀ a' W', Mid o n c 4 N (fun _ a => a.eval (.tmp 3) = .slice (some ⟨w.heap.size, 0, none⟩) n n) (RoT T w n xs) i a' W' → Q' .normal a' W') :
    Code.wp P (Code.region r5 #[⟨some 14, .move (.tmp 3), t0, s0, f0, none⟩, ⟨some 15, .move (.tmp 4), t1, s1, f1, none⟩, ⟨some 16, .move (.tmp 0), t2, s2, f2, none⟩, ⟨some 17, .move (.tmp 4), t3, s3, f3, none⟩, ⟨some 18, .indexAddr tA (.tmp 16) (.tmp 17), t4, s4, f4, none⟩, ⟨some 19, .load tx (.tmp 18), t5, s5, f5, none⟩, ⟨some 20, .call { callee := .value (.func f), args := #[.tmp 19], argTypes := ats }, t6, s6, f6, none⟩, ⟨some 21, .indexAddr tO (.tmp 14) (.tmp 15), t7, s7, f7, none⟩, ⟨none, .store tz (.tmp 21) (.tmp 20), t8, s8, f8, none⟩] false) Q' a W := by
  have hz := h.sz
  obtain ⟨x, hxi⟩ : ∃ x, xs[i]? = some x := ⟨_, List.getElem?_eq_getElem (by omega)⟩
  obtain ⟨p, q, us, rfl, _, hp, hseg, hrep⟩ := hr i x hxi
  have hul := (T.len hrep).trans hk
  have hpl := h.d.bl
  have h3 := h.x
  refine wp_region_list ?_
  refine wpl_move ?_
  rw [h3]
  refine wpl_move ?_
  rw [put_ne (by omega), h.hi]
  refine wpl_move ?_
  rw [put_ne (by omega), put_ne (by omega), h.s]
  refine wpl_move ?_
  rw [put_ne (by omega), put_ne (by omega), put_ne (by omega), h.hi]
  refine wpl_index hA hkA ((put_ne (by omega)).trans (put_eq (by rw [put_sz, put_sz]; omega))) (put_eq (by rw [put_sz, put_sz, put_sz]; omega)) hi ?_
  have hs2 : Seg W p (q + i * k) us := by
    rw [← hk]
    exact hseg.frm (Fr.of hpl) (Nat.zero_le _) hp
  refine wpl_load rfl tx (.tmp 18) rfl (put_eq (by rw [put_sz, put_sz, put_sz, put_sz]; omega)) us htx hul hs2 ?_
  refine wpl_call hf (R := fun e w' => ∃ vs, e = .returned (vA vs) ∧ T.rep w' W.heap.size vs x ∧ Below W.heap.size W w') ?_ ?_
  · have hc := hC us x W (T.frm hrep (Fr.of hpl)) (hx x (List.mem_of_getElem? hxi))
    have e : (((((((a.put (some 14) (.slice (some ⟨w.heap.size, 0, none⟩) n n)).put (some 15) (.int .i64 i)).put (some 16) (.slice (some ⟨p, q, none⟩) n c)).put (some 17) (.int .i64 i)).put (some 18) (.pointer (some ⟨p, q + i * k, none⟩))).put (some 19) (.agg us.toArray))).eval (.tmp 19) = vA us := put_eq (by rw [put_sz, put_sz, put_sz, put_sz, put_sz]; omega)
    simpa only [List.map_toArray, List.map_cons, List.map_nil, e] using hc
  rintro e V ⟨vs, rfl, hrv, hbl⟩
  refine ⟨_, rfl, ?_⟩
  have hvl := (T.len hrv).trans hk
  have e0 : ∀ u1 u2 u3 u4 u5 u6 u7 : Value, (((((((a.put (some 14) u1).put (some 15) u2).put (some 16) u3).put (some 17) u4).put (some 18) u5).put (some 19) u6).put (some 20) u7).eval (.tmp 14) = u1 := fun u1 u2 u3 u4 u5 u6 u7 => (put_ne (by omega)).trans ((put_ne (by omega)).trans ((put_ne (by omega)).trans ((put_ne (by omega)).trans ((put_ne (by omega)).trans ((put_ne (by omega)).trans (put_eq (by omega)))))))
  have e1 : ∀ u1 u2 u3 u4 u5 u6 u7 : Value, (((((((a.put (some 14) u1).put (some 15) u2).put (some 16) u3).put (some 17) u4).put (some 18) u5).put (some 19) u6).put (some 20) u7).eval (.tmp 15) = u2 := fun u1 u2 u3 u4 u5 u6 u7 => (put_ne (by omega)).trans ((put_ne (by omega)).trans ((put_ne (by omega)).trans ((put_ne (by omega)).trans ((put_ne (by omega)).trans (put_eq (by rw [put_sz]; omega))))))
  refine wpl_index hO hkO (e0 ..) (e1 ..) hi ?_
  have hstp := fun (U : World) (hU : V.grownBy U (some w.heap.size)) (hB : ∀ qs bs cs : List Value, qs.length = i * T.k → bs.length = T.k → Box V w.heap.size (qs ++ (bs ++ cs)) → Box U w.heap.size (qs ++ (vs ++ cs))) => h.d.next hi hn hxi hbl hrv hU hB
  obtain ⟨uss, zs, hl, hzl, hbx, hrr⟩ := h.d.ex
  have hlen : ∀ us ∈ uss, us.length = T.k := fun us hm => by
    obtain ⟨m, hm'⟩ := List.mem_iff_getElem?.1 hm
    have hml := (List.getElem?_eq_some_iff.1 hm').1
    exact T.len (hrr m us xs[m] hm' (List.getElem?_eq_getElem (by omega)))
  have hz2 : zs.length = k + (n - (i + 1)) * k := by
    rw [hzl, hk, show n - i = (n - (i + 1)) + 1 by omega, Nat.add_mul]
    omega
  have hbV := hbx.later hbl
  rw [← List.take_append_drop k zs] at hbV
  refine wpl_store (p := w.heap.size) (off := 0 + i * k) (n := k) rfl tz (.tmp 21) (.tmp 20) rfl (put_eq (by rw [put_sz, put_sz, put_sz, put_sz, put_sz, put_sz, put_sz]; omega)) ((put_ne (by omega)).trans (put_eq (by rw [put_sz, put_sz, put_sz, put_sz, put_sz, put_sz]; omega))) vs uss.flatten (zs.take k) (zs.drop k) rfl (T.one hrv) htz hvl hbV (by rw [fl_len hlen, hl, hk, Nat.zero_add]) (by rw [List.length_take]; omega) ?_
  intro U hU hg hs
  refine wpl_nil (hQ _ U ⟨?_, ?_, ?_, ?_, ?_, hstp U hg ?_⟩)
  · refine ev0.trans ?_
    exact (put_ne (by omega)).trans ((put_ne (by omega)).trans ((put_ne (by omega)).trans ((put_ne (by omega)).trans ((put_ne (by omega)).trans ((put_ne (by omega)).trans ((put_ne (by omega)).trans ((put_ne (by omega)).trans h.hi)))))))
  · refine ev0.trans ?_
    exact (put_ne (by omega)).trans ((put_ne (by omega)).trans ((put_ne (by omega)).trans ((put_ne (by omega)).trans ((put_ne (by omega)).trans ((put_ne (by omega)).trans ((put_ne (by omega)).trans ((put_ne (by omega)).trans h.s)))))))
  · exact put_df.trans (put_df.trans (put_df.trans (put_df.trans (put_df.trans (put_df.trans (put_df.trans (put_df.trans (put_df.trans (h.df)))))))))
  · exact put_sz.trans (put_sz.trans (put_sz.trans (put_sz.trans (put_sz.trans (put_sz.trans (put_sz.trans (put_sz.trans (put_sz.trans (hz)))))))))
  · refine ev0.trans ?_
    exact (put_ne (by omega)).trans ((put_ne (by omega)).trans ((put_ne (by omega)).trans ((put_ne (by omega)).trans ((put_ne (by omega)).trans ((put_ne (by omega)).trans ((put_ne (by omega)).trans ((put_ne (by omega)).trans h3)))))))
  · intro qs bs cs hq hbl2 hbox
    obtain ⟨t, h1⟩ := hbox
    obtain ⟨t', h2⟩ := hbV
    rw [h1] at h2
    have h3' : qs ++ (bs ++ cs) = uss.flatten ++ (zs.take k ++ zs.drop k) := by
      have := (Obj.cells.inj (Option.some.inj h2)).1
      exact congrArg Array.toList this
    have hfl : qs.length = uss.flatten.length := by rw [hq, fl_len hlen, hl]
    obtain ⟨rfl, h4⟩ := List.append_inj h3' hfl
    obtain ⟨rfl, rfl⟩ := List.append_inj h4 (by rw [hbl2, hk, List.length_take]; omega)
    exact hU
/-- A round: one cell is copied. -/
theorem body_toS {N n c : Nat} {tA eA tO eO tx : TypeId} {w : World} {o : Option Addr} {xs : List α} (hN : 20 < N) (hA : P.underlying tA = some (.slice eA)) (hkA : (P.info? eA).map (·.size) = some 1) (hO : P.underlying tO = some (.slice eO)) (hkO : (P.info? eO).map (·.size) = some 1) (hk : T.k = 1) (htx : Sca P tx)
    (hfl : ∀ {W B V C us x}, T.rep W B us x → T.rep V C us x) (hn : n = xs.length) (hr : ∀ j x, xs[j]? = some x → At T w 0 o j x)
    (i : Nat) (a : Act) (W : World) (hi : i < n) (h : Inv o n c 4 N (fun _ a => a.eval (.tmp 3) = .slice (some ⟨w.heap.size, 0, none⟩) n n) (RoT T w n xs) i a W) (Q' : Exit → Act → World → Prop) (hQ : ∀ a' W', Mid o n c 4 N (fun _ a => a.eval (.tmp 3) = .slice (some ⟨w.heap.size, 0, none⟩) n n) (RoT T w n xs) i a' W' → Q' .normal a' W') :
    Code.wp P (Code.region r5 #[⟨some 14, .move (.tmp 3), t0, s0, f0, none⟩, ⟨some 15, .move (.tmp 4), t1, s1, f1, none⟩, ⟨some 16, .move (.tmp 0), t2, s2, f2, none⟩, ⟨some 17, .move (.tmp 4), t3, s3, f3, none⟩, ⟨some 18, .indexAddr tA (.tmp 16) (.tmp 17), t4, s4, f4, none⟩, ⟨some 19, .load tx (.tmp 18), t5, s5, f5, none⟩, ⟨some 20, .indexAddr tO (.tmp 14) (.tmp 15), t7, s7, f7, none⟩, ⟨none, .store tx (.tmp 20) (.tmp 19), t8, s8, f8, none⟩] false) Q' a W := by
  have hz := h.sz
  obtain ⟨x, hxi⟩ : ∃ x, xs[i]? = some x := ⟨_, List.getElem?_eq_getElem (by omega)⟩
  obtain ⟨p, q, us, rfl, _, hp, hseg, hrep⟩ := hr i x hxi
  have hul := (T.len hrep).trans hk
  obtain ⟨v, rfl⟩ : ∃ v, us = [v] := by
    cases us with
    | nil => cases hul
    | cons v t => exact ⟨v, by rw [List.length_eq_zero_iff.1 (by simpa using hul : t.length = 0)]⟩
  have h1 := T.one hrep v (List.mem_singleton.2 rfl)
  have hpl := h.d.bl
  have h3 := h.x
  refine wp_region_list ?_
  refine wpl_move ?_
  rw [h3]
  refine wpl_move ?_
  rw [put_ne (by omega), h.hi]
  refine wpl_move ?_
  rw [put_ne (by omega), put_ne (by omega), h.s]
  refine wpl_move ?_
  rw [put_ne (by omega), put_ne (by omega), put_ne (by omega), h.hi]
  refine wpl_index hA hkA ((put_ne (by omega)).trans (put_eq (by rw [put_sz, put_sz]; omega))) (put_eq (by rw [put_sz, put_sz, put_sz]; omega)) hi ?_
  have hs2 : Seg W p (q + i * 1) [v] := by
    have h9 := hseg.frm (Fr.of hpl) (Nat.zero_le _) hp
    rw [hk] at h9
    exact h9
  refine wpl_loadS rfl tx (.tmp 18) rfl (put_eq (by rw [put_sz, put_sz, put_sz, put_sz]; omega)) v htx hs2.one ?_
  have e0 : ∀ u1 u2 u3 u4 u5 u6 : Value, ((((((a.put (some 14) u1).put (some 15) u2).put (some 16) u3).put (some 17) u4).put (some 18) u5).put (some 19) u6).eval (.tmp 14) = u1 := fun u1 u2 u3 u4 u5 u6 => (put_ne (by omega)).trans ((put_ne (by omega)).trans ((put_ne (by omega)).trans ((put_ne (by omega)).trans ((put_ne (by omega)).trans (put_eq (by omega))))))
  have e1 : ∀ u1 u2 u3 u4 u5 u6 : Value, ((((((a.put (some 14) u1).put (some 15) u2).put (some 16) u3).put (some 17) u4).put (some 18) u5).put (some 19) u6).eval (.tmp 15) = u2 := fun u1 u2 u3 u4 u5 u6 => (put_ne (by omega)).trans ((put_ne (by omega)).trans ((put_ne (by omega)).trans ((put_ne (by omega)).trans (put_eq (by rw [put_sz]; omega)))))
  refine wpl_index hO hkO (e0 ..) (e1 ..) hi ?_
  have hstp := fun (U : World) (hU : W.grownBy U (some w.heap.size)) (hB : ∀ qs bs cs : List Value, qs.length = i * T.k → bs.length = T.k → Box W w.heap.size (qs ++ (bs ++ cs)) → Box U w.heap.size (qs ++ ([v] ++ cs))) => h.d.next hi hn hxi (Below.refl _ W) (hfl hrep : T.rep W W.heap.size [v] x) hU hB
  obtain ⟨uss, zs, hl, hzl, hbx, hrr⟩ := h.d.ex
  have hlen : ∀ us ∈ uss, us.length = T.k := fun us hm => by
    obtain ⟨m, hm'⟩ := List.mem_iff_getElem?.1 hm
    have hml := (List.getElem?_eq_some_iff.1 hm').1
    exact T.len (hrr m us xs[m] hm' (List.getElem?_eq_getElem (by omega)))
  have hz2 : zs.length = 1 + (n - (i + 1)) * 1 := by
    rw [hzl, hk]
    omega
  have hbV := hbx
  rw [← List.take_append_drop 1 zs] at hbV
  refine wpl_store (p := w.heap.size) (off := 0 + i * 1) (n := 1) rfl tx (.tmp 20) (.tmp 19) rfl (put_eq (by rw [put_sz, put_sz, put_sz, put_sz, put_sz, put_sz]; omega)) ((put_ne (by omega)).trans (put_eq (by rw [put_sz, put_sz, put_sz, put_sz, put_sz]; omega))) [v] uss.flatten (zs.take 1) (zs.drop 1) (by cases v <;> first | rfl | cases h1) (one1 h1) htx.2 rfl hbV (by rw [fl_len hlen, hl, hk, Nat.zero_add]) (by rw [List.length_take]; omega) ?_
  intro U hU hg hs
  refine wpl_nil (hQ _ U ⟨?_, ?_, ?_, ?_, ?_, hstp U hg ?_⟩)
  · refine ev0.trans ?_
    exact (put_ne (by omega)).trans ((put_ne (by omega)).trans ((put_ne (by omega)).trans ((put_ne (by omega)).trans ((put_ne (by omega)).trans ((put_ne (by omega)).trans ((put_ne (by omega)).trans h.hi))))))
  · refine ev0.trans ?_
    exact (put_ne (by omega)).trans ((put_ne (by omega)).trans ((put_ne (by omega)).trans ((put_ne (by omega)).trans ((put_ne (by omega)).trans ((put_ne (by omega)).trans ((put_ne (by omega)).trans h.s))))))
  · exact put_df.trans (put_df.trans (put_df.trans (put_df.trans (put_df.trans (put_df.trans (put_df.trans (put_df.trans h.df)))))))
  · exact put_sz.trans (put_sz.trans (put_sz.trans (put_sz.trans (put_sz.trans (put_sz.trans (put_sz.trans (put_sz.trans hz)))))))
  · refine ev0.trans ?_
    exact (put_ne (by omega)).trans ((put_ne (by omega)).trans ((put_ne (by omega)).trans ((put_ne (by omega)).trans ((put_ne (by omega)).trans ((put_ne (by omega)).trans ((put_ne (by omega)).trans h3))))))
  · intro qs bs cs hq hbl2 hbox
    obtain ⟨t, h1⟩ := hbox
    obtain ⟨t', h2⟩ := hbV
    rw [h1] at h2
    have h3' : qs ++ (bs ++ cs) = uss.flatten ++ (zs.take 1 ++ zs.drop 1) := by
      have := (Obj.cells.inj (Option.some.inj h2)).1
      exact congrArg Array.toList this
    have hfl : qs.length = uss.flatten.length := by rw [hq, fl_len hlen, hl]
    obtain ⟨rfl, h4⟩ := List.append_inj h3' hfl
    obtain ⟨rfl, rfl⟩ := List.append_inj h4 (by rw [hbl2, hk, List.length_take]; omega)
    exact hU
end

end Go.Proofs.YtjiplphfpkhmpaaGreat
