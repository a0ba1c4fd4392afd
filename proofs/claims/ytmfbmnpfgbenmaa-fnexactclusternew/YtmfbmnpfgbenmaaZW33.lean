/-
  The program's copies of entries and of a Keep.
-/
import Derived.Test.YtmfbmnpfgbenmaaZW32
namespace Go.Proofs.Ytmfbmnpfgbenmaa
open Go.ChangeShapes Go.WideShapes Go.ChangeAt Go.RowKit Go.Joins Go.Deep

/-- So many entries have bytes of their own. -/
structure OeD (w : World) (p : Nat) (zs : List Value) (es : List En) (i : Nat) (W : World) : Prop where
  ex : ∃ (uss : List (List Value)) (G : Nat → Nat → Prop), Box W p (uss.flatten ++ zs) ∧ uss.length = es.length ∧ (∀ us ∈ uss, us.length = 3) ∧ (∀ (j : Nat) (us : List Value) (e : En), uss[j]? = some us → es[j]? = some e → (j < i → mEntry.own W (G j) us (enX e)) ∧ (i ≤ j → us = KEn.cs e)) ∧
    (∀ j q, G j q → w.heap.size ≤ q ∧ q < W.heap.size ∧ q ≠ p ∧ j < i) ∧ (∀ i j q, G i q → G j q → i = j)
  bl : Below w.heap.size w W
theorem OeD.next {w W V U : World} {p i : Nat} {zs : List Value} {es : List En} {e : En} {v : Value} (h : OeD w p zs es i W) (he : es[i]? = some e) (hp : w.heap.size ≤ p) (hpW : p < W.heap.size) (hb : Below W.heap.size W V) (hv : OwnG KBy 5 V W.heap.size v e.zs) (hd : e.n = e.zs.length ∧ Oct e.zs) (hz : e.n ≤ 1048576)
    (hU : V.grownBy U (some p)) (hs : ∀ pre x post : List Value, pre.length = i * 3 + 2 → x.length = 1 → Box V p (pre ++ (x ++ post)) → Box U p (pre ++ ([v] ++ post))) : OeD w p zs es (i + 1) U := by
  obtain ⟨uss, G, h1, h2, h3, h4, h5, h6⟩ := h.ex
  have hi := (List.getElem?_eq_some_iff.1 he).1
  have hui : uss[i]? = some uss[i] := List.getElem?_eq_getElem (by omega)
  have hc : uss[i] = KEn.cs e := (h4 i _ e hui he).2 (Nat.le_refl _)
  have hlt : ∀ us ∈ uss.take i, us.length = 3 := fun us hm => h3 us (List.mem_of_mem_take hm)
  have hG : ∀ q, W.heap.size ≤ q → q < V.heap.size → q ≠ p := fun q hq _ e => by omega
  have hbV : Box V p ((uss.take i).flatten ++ [.int .i64 e.T, .int .i64 e.K] ++ ([.slice e.a e.n e.c] ++ ((uss.drop (i + 1)).flatten ++ zs))) := by
    have := h1.later hb
    rw [fl_at hui, hc, show KEn.cs e = [.int .i64 e.T, .int .i64 e.K] ++ [.slice e.a e.n e.c] from rfl] at this
    simpa only [List.append_assoc] using this
  have hbU := hs _ _ _ (by rw [List.length_append, fl_len hlt, List.length_take]; show min i uss.length * 3 + 2 = _; congr 2; omega) rfl hbV
  refine ⟨⟨uss.set i [.int .i64 e.T, .int .i64 e.K, v], fun j q => if j = i then (W.heap.size ≤ q ∧ q < V.heap.size) else G j q, ?_, by rw [List.length_set, h2], ?_, ?_, ?_, ?_⟩, ?_⟩
  · have hd2 : (uss.set i [.int .i64 e.T, .int .i64 e.K, v])[i]? = some [.int .i64 e.T, .int .i64 e.K, v] := by rw [List.getElem?_set_self (by omega)]
    rw [fl_at hd2, List.take_set_of_le (Nat.le_refl _), List.drop_set_of_lt (Nat.lt_succ_self _), show [.int .i64 e.T, .int .i64 e.K, v] = [.int .i64 e.T, .int .i64 e.K] ++ [v] from rfl]
    simpa only [List.append_assoc] using hbU
  · intro us hm
    rcases List.mem_or_eq_of_mem_set hm with hm | rfl
    · exact h3 us hm
    · rfl
  · intro j us f hju hjf
    by_cases hij : i = j
    · subst hij
      rw [List.getElem?_set_self (by omega)] at hju
      obtain rfl := Option.some.inj hju
      obtain rfl : e = f := Option.some.inj (he.symm.trans hjf)
      refine ⟨fun _ => ?_, fun h => absurd h (by omega)⟩
      refine mEntry.wid (F := fun q => W.heap.size ≤ q ∧ q < V.heap.size) ?_ (fun q hq => by show (if i = i then _ else _); rw [if_pos rfl]; exact hq)
      refine ⟨[.int .i64 e.T, .int .i64 e.K], [v], fun _ => False, _, rfl, fun _ h => h.elim, fun _ h => h, fun _ h => h.elim, ⟨[.int .i64 e.T], [.int .i64 e.K], fun _ => False, fun _ => False, rfl, fun _ h => h, fun _ h => h, fun _ h => h.elim, ⟨[], [.int .i64 e.T], fun _ => False, fun _ => False, rfl, fun _ h => h, fun _ h => h, fun _ h => h.elim, rfl, rfl⟩, rfl⟩, ?_⟩
      refine mByteS.chg (own_byte hv hd.2 (by show e.zs.length ≤ _; omega) _ (fun q hq => hv.lt q hq)) (Chg.row hU) (fun q hq => ?_)
      exact hG q hq.1 hq.2
    · rw [List.getElem?_set_ne hij] at hju
      obtain ⟨g1, g2⟩ := h4 j us f hju hjf
      refine ⟨fun hj => ?_, fun hj => g2 (by omega)⟩
      have hji : ¬ j = i := fun h => hij h.symm
      refine mEntry.wid (F := G j) ?_ (fun q hq => by show (if j = i then _ else _); rw [if_neg hji]; exact hq)
      exact mEntry.chg (mEntry.lat (g1 (by omega)) hb) (Chg.row hU) (fun q hq => (h5 j q hq).2.2.1)
  · intro j q hq
    have hsz := hb.size
    have hsu := hU.size
    have hsw := h.bl.size
    by_cases hji : j = i
    · rw [if_pos hji] at hq
      exact ⟨by omega, by omega, hG q hq.1 hq.2, by omega⟩
    · rw [if_neg hji] at hq
      obtain ⟨g1, g2, g3, g4⟩ := h5 j q hq
      exact ⟨g1, by omega, g3, by omega⟩
  · intro j k q hj hk
    by_cases hji : j = i
    · by_cases hki : k = i
      · omega
      · rw [if_pos hji] at hj
        rw [if_neg hki] at hk
        have := (h5 k q hk).2.1
        omega
    · rw [if_neg hji] at hj
      by_cases hki : k = i
      · rw [if_pos hki] at hk
        have := (h5 j q hj).2.1
        omega
      · rw [if_neg hki] at hk
        exact h6 j k q hj hk
  · have hb5 := h.bl.trans (hb.mono h.bl.size)
    exact hb5.grown hU hb5.size (fun q hq => by have := Option.some.inj hq; omega)
theorem OeD.all {w W : World} {p c : Nat} {zs : List Value} {es : List En} (h : OeD w p zs es es.length W) (hp : w.heap.size ≤ p) (hl : es.length ≤ 1048576) : mEntryS.own W (fun q => w.heap.size ≤ q ∧ q < W.heap.size) [.slice (some ⟨p, 0, none⟩) es.length c] (es.map enX) := by
  obtain ⟨uss, G, h1, h2, h3, h4, h5, h6⟩ := h.ex
  refine .inr ⟨p, 0, c, [], zs, uss, G, by rw [List.length_map], by rw [List.length_map]; omega, ⟨hp, h1.lt⟩, rfl, by rw [List.length_map, h2], h1, ?_, fun j q hq => ⟨⟨(h5 j q hq).1, (h5 j q hq).2.1⟩, (h5 j q hq).2.2.1⟩, h6⟩
  intro j us x hju hjx
  rw [List.getElem?_map, Option.map_eq_some_iff] at hjx
  obtain ⟨e, he, rfl⟩ := hjx
  exact (h4 j us e hju he).1 (List.getElem?_eq_some_iff.1 he).1

theorem tail_ret {P : Program} {fn : Func} {R : Ending → World → Prop} {a : Act} {W : World} {u : Value} {N d r s : Nat} {t0 t1 : TypeId} {s0 s1 : String} {f0 f1 : Array Edge} (hu : a.eval (.tmp r) = u) (hz : a.tmps.size = N) (hd : a.defers = []) (hl : 2 < d ∧ d < N) (hres : fn.results = #[.tmp 2]) (hR : R (.returned u) W) :
    Code.wp P ((Code.region s #[⟨some d, .move (.tmp r), t0, s0, f0, none⟩, ⟨some 2, .assign (.tmp d), t1, s1, f1, none⟩] false).seq Code.ret) (bodyPost P fn R) a W := by
  obtain ⟨l0, l1⟩ := hl
  refine wp_seq (wp_region_list (wpl_move (wpl_assign (wpl_nil (wp_ret ?_)))))
  rw [hu, put_eq (by omega)]
  refine bodyPost_ret (v := u) ?_ (put_df.trans (put_df.trans hd)) hR
  have e4 : ((a.put (some d) u).put (some 2) u).tmps.getD 2 undef = u := (put_eq (by rw [put_sz]; omega) : ((a.put (some d) u).put (some 2) u).eval (.tmp 2) = u)
  have e5 : ((a.put (some d) u).put (some 2) u).tmps[2]?.getD undef = u := by simpa using e4
  simp [results, hres, e5]
section
variable {t0 t1 t2 t3 t4 t5 t6 t7 t8 t9 t10 t11 t12 t13 t14 t15 t16 t17 t18 t19 t20 t21 t22 t23 t24 t25 t26 t27 t28 : TypeId} {s0 s1 s2 s3 s4 s5 s6 s7 s8 s9 s10 s11 s12 s13 s14 s15 s16 s17 s18 s19 s20 s21 s22 s23 s24 s25 s26 s27 s28 : String} {f0 f1 f2 f3 f4 f5 f6 f7 f8 f9 f10 f11 f12 f13 f14 f15 f16 f17 f18 f19 f20 f21 f22 f23 f24 f25 f26 f27 f28 : Array Edge} {r0 r1 r2 r3 r4 r5 r6 r7 b0 b1 : Nat} {at1 at2 at3 : Array TypeId} {ti tj tk tm : TypeId}
set_option maxRecDepth 10000 in
set_option maxHeartbeats 4000000 in
theorem ownEnt_body (es : List En) (w : World) (p c : Nat) (zs : List Value) (hpw : w.heap.size ≤ p) (hD : ∀ e ∈ es, DatR w e) (hz : ∀ e ∈ es, e.n ≤ 1048576) (i : Nat) (a : Act) (W : World) (hi : i < es.length)
    (h : RgI (some ⟨p, 0, none⟩) es.length c 8 9 10 24 (fun a => a.eval (.tmp 3) = .slice (some ⟨p, 0, none⟩) es.length c) (OeD w p zs es) i i a W) (Q' : Exit → Act → World → Prop) (kq : ∀ a' W', RgI (some ⟨p, 0, none⟩) es.length c 8 9 10 24 (fun a => a.eval (.tmp 3) = .slice (some ⟨p, 0, none⟩) es.length c) (OeD w p zs es) i (i + 1) a' W' → Q' .normal a' W') :
    Code.wp Try.prog ((Code.region r4 #[⟨some 12, .move (.tmp 10), t0, s0, f0, none⟩, ⟨some 13, .indexAddr 28 (.tmp 8) (.tmp 10), t1, s1, f1, none⟩, ⟨some 14, .load 113 (.tmp 13), t2, s2, f2, none⟩, ⟨some 5, .alloc 113, t3, s3, f3, none⟩, ⟨some 4, .assign (.tmp 12), t4, s4, f4, none⟩, ⟨none, .store 113 (.tmp 5) (.tmp 14), t5, s5, f5, none⟩] false).seq (Code.region r5 #[⟨some 15, .move (.tmp 3), t6, s6, f6, none⟩, ⟨some 16, .move (.tmp 4), t7, s7, f7, none⟩, ⟨some 17, .fieldAddr 113 (.tmp 5) 2, t8, s8, f8, none⟩, ⟨some 18, .load 52 (.tmp 17), t9, s9, f9, none⟩, ⟨some 19, .call { callee := .value (.func 96), args := #[.tmp 18], argTypes := at1 }, t10, s10, f10, none⟩, ⟨some 20, .indexAddr 28 (.tmp 15) (.tmp 16), t11, s11, f11, none⟩, ⟨some 21, .fieldAddr 113 (.tmp 20) 2, t12, s12, f12, none⟩, ⟨none, .store 52 (.tmp 21) (.tmp 19), t13, s13, f13, none⟩] false)) Q' a W := by
  have hz0 := h.sz
  have hz := fun e he => hz e he
  obtain ⟨uss, G, h1, h2, h3, h4, _, _⟩ := h.d.ex
  obtain ⟨e, he⟩ : ∃ e, es[i]? = some e := ⟨_, List.getElem?_eq_getElem hi⟩
  have hem := List.mem_of_getElem? he
  have hd := hD e hem
  have hze := hz e hem
  have hui : uss[i]? = some uss[i] := List.getElem?_eq_getElem (by omega)
  have hc : uss[i] = KEn.cs e := (h4 i _ e hui he).2 (Nat.le_refl _)
  have hlt : ∀ us ∈ uss.take i, us.length = 3 := fun us hm => h3 us (List.mem_of_mem_take hm)
  have hpW := h1.lt
  have hseg : Seg W p (0 + i * 3) (KEn.cs e) := by
    have hb0 := h1
    rw [fl_at hui, List.append_assoc, hc] at hb0
    refine Box.seg (ts := (uss.drop (i + 1)).flatten ++ zs) (by simpa only [List.append_assoc] using hb0) ?_
    rw [fl_len hlt, List.length_take, Nat.min_eq_left (by omega)]
    omega
  refine wp_seq (wp_region_list ?_)
  refine wpl_move ?_
  rw [show Act.eval a (.tmp 10) = .int .i64 i from h.hi]
  refine wpl_index (e := 113) (k := 3) (by kernel_rfl) (by kernel_rfl) ((put_ne (by omega)).trans (h.hr)) ((put_ne (by omega)).trans (h.hi)) hi ?_
  refine wpl_load rfl 113 (.tmp 13) rfl (put_eq (by rw [put_sz]; omega)) (KEn.cs e) (n := 3) ⟨by kernel_rfl, by kernel_rfl⟩ rfl hseg ?_
  refine wpl_alloc (zs := [.int .i64 0, .int .i64 0, .slice none 0 0]) (z := .agg #[.int .i64 0, .int .i64 0, .slice none 0 0]) (by kernel_rfl) rfl ?_
  intro V1 hb1 hl1 hz1
  refine wpl_assign ?_
  rw [show Act.eval ((((a.put (some 12) (.int .i64 i)).put (some 13) (.pointer (some ⟨p, 0 + i * 3, none⟩))).put (some 14) (.agg (KEn.cs e).toArray)).put (some 5) (.pointer (some ⟨W.heap.size, 0, none⟩))) (.tmp 12) = .int .i64 i from ((put_ne (by omega)).trans ((put_ne (by omega)).trans ((put_ne (by omega)).trans (put_eq (by omega)))))]
  refine wpl_store rfl 113 (.tmp 5) (.tmp 14) rfl ((put_ne (by omega)).trans (put_eq (by rw [put_sz, put_sz, put_sz]; omega))) ((put_ne (by omega)).trans ((put_ne (by omega)).trans (put_eq (by rw [put_sz, put_sz]; omega)))) (KEn.cs e) [] [.int .i64 0, .int .i64 0, .slice none 0 0] [] rfl (KEn.one e) (by kernel_rfl) rfl hb1 rfl rfl ?_
  intro V2 hb2 hg2 hz2
  have hW2' : Below w.heap.size w V2 := (h.d.bl.trans (hl1.mono h.d.bl.size)).grown hg2 (Nat.le_trans h.d.bl.size hl1.size) (fun q hq => by have := Option.some.inj hq; have := h.d.bl.size; omega)
  rw [put_none]
  refine wpl_nil ?_
  refine wp_region_list ?_
  refine wpl_move ?_
  rw [show Act.eval (((((a.put (some 12) (.int .i64 i)).put (some 13) (.pointer (some ⟨p, 0 + i * 3, none⟩))).put (some 14) (.agg (KEn.cs e).toArray)).put (some 5) (.pointer (some ⟨W.heap.size, 0, none⟩))).put (some 4) (.int .i64 i)) (.tmp 3) = .slice (some ⟨p, 0, none⟩) es.length c from ((put_ne (by omega)).trans ((put_ne (by omega)).trans ((put_ne (by omega)).trans ((put_ne (by omega)).trans ((put_ne (by omega)).trans (h.x))))))]
  refine wpl_move ?_
  rw [show Act.eval ((((((a.put (some 12) (.int .i64 i)).put (some 13) (.pointer (some ⟨p, 0 + i * 3, none⟩))).put (some 14) (.agg (KEn.cs e).toArray)).put (some 5) (.pointer (some ⟨W.heap.size, 0, none⟩))).put (some 4) (.int .i64 i)).put (some 15) (.slice (some ⟨p, 0, none⟩) es.length c)) (.tmp 4) = .int .i64 i from ((put_ne (by omega)).trans (put_eq (by rw [put_sz, put_sz, put_sz, put_sz]; omega)))]
  refine wpl_field (off := 2) ((put_ne (by omega)).trans ((put_ne (by omega)).trans ((put_ne (by omega)).trans (put_eq (by rw [put_sz, put_sz, put_sz]; omega))))) (by kernel_rfl) ?_
  refine wpl_loadS rfl 52 (.tmp 17) rfl (put_eq (by rw [put_sz, put_sz, put_sz, put_sz, put_sz, put_sz, put_sz]; omega)) (.slice e.a e.n e.c) ⟨by kernel_rfl, by kernel_rfl⟩ (Seg.one (Box.seg (us := [.int .i64 e.T, .int .i64 e.K]) (vs := [.slice e.a e.n e.c]) (ts := []) hb2 rfl)) ?_
  have ea : Act.eval (((((((((a.put (some 12) (.int .i64 i)).put (some 13) (.pointer (some ⟨p, 0 + i * 3, none⟩))).put (some 14) (.agg (KEn.cs e).toArray)).put (some 5) (.pointer (some ⟨W.heap.size, 0, none⟩))).put (some 4) (.int .i64 i)).put (some 15) (.slice (some ⟨p, 0, none⟩) es.length c)).put (some 16) (.int .i64 i)).put (some 17) (.pointer (some ⟨W.heap.size, 2, none⟩))).put (some 18) (.slice e.a e.n e.c)) (.tmp 18) = .slice e.a e.n e.c := (put_eq (by rw [put_sz, put_sz, put_sz, put_sz, put_sz, put_sz, put_sz, put_sz]; omega))
  refine wpl_call ⟨_, Try.func96, by kernel_rfl, by kernel_rfl⟩ (R := fun x V => ∃ v, x = .returned v ∧ v.oneCell' = true ∧ OwnG KBy 5 V V2.heap.size v e.zs ∧ Below V2.heap.size V2 V) ?_ ?_
  · have hc := (cloneByte e.a e.n e.c e.zs V2 hd.1 (hd.2.2.later hW2') hze).mono (R' := fun x V => ∃ v, x = .returned v ∧ v.oneCell' = true ∧ OwnG KBy 5 V V2.heap.size v e.zs ∧ Below V2.heap.size V2 V) (fun x V ⟨a', c', g1, g2, g3⟩ => ⟨_, g1, rfl, g2, g3⟩)
    simpa only [List.map_toArray, List.map_cons, List.map_nil, ea] using hc
  rintro x V ⟨v, rfl, v1c, hv, hbl⟩
  refine ⟨_, rfl, ?_⟩
  refine wpl_index (e := 113) (k := 3) (by kernel_rfl) (by kernel_rfl) ((put_ne (by omega)).trans ((put_ne (by omega)).trans ((put_ne (by omega)).trans ((put_ne (by omega)).trans (put_eq (by rw [put_sz, put_sz, put_sz, put_sz, put_sz]; omega)))))) ((put_ne (by omega)).trans ((put_ne (by omega)).trans ((put_ne (by omega)).trans (put_eq (by rw [put_sz, put_sz, put_sz, put_sz, put_sz, put_sz]; omega))))) hi ?_
  refine wpl_fieldo (off := 2) (put_eq (by rw [put_sz, put_sz, put_sz, put_sz, put_sz, put_sz, put_sz, put_sz, put_sz, put_sz]; omega)) (by kernel_rfl) ?_
  have hbV : Box V p ((uss.take i).flatten ++ [.int .i64 e.T, .int .i64 e.K] ++ ([.slice e.a e.n e.c] ++ ((uss.drop (i + 1)).flatten ++ zs))) := by
    have := ((h1.later hl1).other hg2 (by omega)).later hbl
    rw [fl_at hui, hc, show KEn.cs e = [.int .i64 e.T, .int .i64 e.K] ++ [.slice e.a e.n e.c] from rfl] at this
    simpa only [List.append_assoc] using this
  refine wpl_store rfl 52 (.tmp 21) (.tmp 19) rfl (put_eq (by rw [put_sz, put_sz, put_sz, put_sz, put_sz, put_sz, put_sz, put_sz, put_sz, put_sz, put_sz]; omega)) ((put_ne (by omega)).trans ((put_ne (by omega)).trans (put_eq (by rw [put_sz, put_sz, put_sz, put_sz, put_sz, put_sz, put_sz, put_sz, put_sz]; omega)))) [v] ((uss.take i).flatten ++ [.int .i64 e.T, .int .i64 e.K]) [.slice e.a e.n e.c] ((uss.drop (i + 1)).flatten ++ zs) (by cases v <;> first | rfl | cases v1c) (one1 v1c) (by kernel_rfl) rfl hbV (by rw [List.length_append, fl_len hlt, List.length_take]; show min i uss.length * 3 + 2 = _; rw [Nat.min_eq_left (by omega)]; omega) rfl ?_
  intro U hU hgU hzU
  rw [put_none]
  refine wpl_nil (kq _ U ⟨((put_ne (by omega)).trans ((put_ne (by omega)).trans ((put_ne (by omega)).trans ((put_ne (by omega)).trans ((put_ne (by omega)).trans ((put_ne (by omega)).trans ((put_ne (by omega)).trans ((put_ne (by omega)).trans ((put_ne (by omega)).trans ((put_ne (by omega)).trans ((put_ne (by omega)).trans ((put_ne (by omega)).trans (h.hr))))))))))))), ((put_ne (by omega)).trans ((put_ne (by omega)).trans ((put_ne (by omega)).trans ((put_ne (by omega)).trans ((put_ne (by omega)).trans ((put_ne (by omega)).trans ((put_ne (by omega)).trans ((put_ne (by omega)).trans ((put_ne (by omega)).trans ((put_ne (by omega)).trans ((put_ne (by omega)).trans ((put_ne (by omega)).trans (h.hn))))))))))))), ((put_ne (by omega)).trans ((put_ne (by omega)).trans ((put_ne (by omega)).trans ((put_ne (by omega)).trans ((put_ne (by omega)).trans ((put_ne (by omega)).trans ((put_ne (by omega)).trans ((put_ne (by omega)).trans ((put_ne (by omega)).trans ((put_ne (by omega)).trans ((put_ne (by omega)).trans ((put_ne (by omega)).trans (h.hi))))))))))))), (put_df.trans (put_df.trans (put_df.trans (put_df.trans (put_df.trans (put_df.trans (put_df.trans (put_df.trans (put_df.trans (put_df.trans (put_df.trans (put_df.trans (h.df))))))))))))), (by rw [put_sz, put_sz, put_sz, put_sz, put_sz, put_sz, put_sz, put_sz, put_sz, put_sz, put_sz, put_sz]; exact h.sz), ((put_ne (by omega)).trans ((put_ne (by omega)).trans ((put_ne (by omega)).trans ((put_ne (by omega)).trans ((put_ne (by omega)).trans ((put_ne (by omega)).trans ((put_ne (by omega)).trans ((put_ne (by omega)).trans ((put_ne (by omega)).trans ((put_ne (by omega)).trans ((put_ne (by omega)).trans ((put_ne (by omega)).trans (h.x))))))))))))), ?_⟩)
  have hb3 : Below W.heap.size W V2 := hl1.grown hg2 hl1.size (fun q hq => by have := Option.some.inj hq; omega)
  have hbe : Below W.heap.size W V := hb3.trans (hbl.mono hb3.size)
  refine h.d.next he hpw h1.lt hbe (hv.mono hb3.size) ⟨hd.1, hd.2.1⟩ hze hgU (fun pre x post hpre hx hbox => ?_)
  obtain ⟨t, g1⟩ := hbox
  obtain ⟨t', g2⟩ := hbV
  rw [g1] at g2
  have g3 : pre ++ (x ++ post) = ((uss.take i).flatten ++ [.int .i64 e.T, .int .i64 e.K]) ++ ([.slice e.a e.n e.c] ++ ((uss.drop (i + 1)).flatten ++ zs)) := congrArg Array.toList (Obj.cells.inj (Option.some.inj g2)).1
  obtain ⟨rfl, g4⟩ := List.append_inj g3 (by rw [hpre, List.length_append, fl_len hlt, List.length_take]; show _ = min i uss.length * 3 + 2; rw [Nat.min_eq_left (by omega)])
  obtain ⟨rfl, rfl⟩ := List.append_inj g4 hx
  exact hU
set_option maxRecDepth 10000 in
set_option maxHeartbeats 4000000 in
theorem ownEnt_walk {fn : Func} (hN : fn.ntmps = 24) (hres : fn.results = #[.tmp 2]) (ad : Option Addr) (n cp : Nat) (es : List En) (w : World) (hn : n = es.length) (hR : RowG KEn w ad es) (hD : ∀ e ∈ es, DatR w e) (hl : n ≤ 1048576) (hz : ∀ e ∈ es, e.n ≤ 1048576) :
    Code.wp Try.prog ((Code.region r0 #[⟨some 2, .assign (.const (.slice none 0 0)), t14, s14, f14, none⟩] false).seq ((Code.region r1 #[⟨some 6, .move (.tmp 0), t15, s15, f15, none⟩, ⟨some 7, .call { callee := .value (.func 113), args := #[.tmp 6], argTypes := at2 }, t16, s16, f16, none⟩, ⟨some 3, .assign (.tmp 7), t17, s17, f17, none⟩] false).seq
      (((Code.region r2 #[⟨some 8, .move (.tmp 3), t18, s18, f18, none⟩, ⟨some 9, .call { callee := .builtin .len, args := #[.tmp 8], argTypes := #[28] }, t19, s19, f19, none⟩, ⟨some 10, .move (.const (.int .i64 0)), t20, s20, f20, none⟩] false).seq (Code.block b0 (Code.loop
      ((Code.region r3 #[⟨some 11, .binOp .lss ti (.tmp 10) (.tmp 9) tj, t21, s21, f21, none⟩] false).seq ((Code.cond (.tmp 11) Code.skip (Code.exit b0)).seq
        ((Code.block b1 ((Code.region r4 #[⟨some 12, .move (.tmp 10), t0, s0, f0, none⟩, ⟨some 13, .indexAddr 28 (.tmp 8) (.tmp 10), t1, s1, f1, none⟩, ⟨some 14, .load 113 (.tmp 13), t2, s2, f2, none⟩, ⟨some 5, .alloc 113, t3, s3, f3, none⟩, ⟨some 4, .assign (.tmp 12), t4, s4, f4, none⟩, ⟨none, .store 113 (.tmp 5) (.tmp 14), t5, s5, f5, none⟩] false).seq (Code.region r5 #[⟨some 15, .move (.tmp 3), t6, s6, f6, none⟩, ⟨some 16, .move (.tmp 4), t7, s7, f7, none⟩, ⟨some 17, .fieldAddr 113 (.tmp 5) 2, t8, s8, f8, none⟩, ⟨some 18, .load 52 (.tmp 17), t9, s9, f9, none⟩, ⟨some 19, .call { callee := .value (.func 96), args := #[.tmp 18], argTypes := at1 }, t10, s10, f10, none⟩, ⟨some 20, .indexAddr 28 (.tmp 15) (.tmp 16), t11, s11, f11, none⟩, ⟨some 21, .fieldAddr 113 (.tmp 20) 2, t12, s12, f12, none⟩, ⟨none, .store 52 (.tmp 21) (.tmp 19), t13, s13, f13, none⟩] false))).seq (Code.region r6 #[⟨some 22, .binOp .add tk (.tmp 10) (.const (.int .i64 1)) tm, t22, s22, f22, none⟩, ⟨some 10, .move (.tmp 22), t23, s23, f23, none⟩] false))))))).seq
      ((Code.region r7 #[⟨some 23, .move (.tmp 3), t24, s24, f24, none⟩, ⟨some 2, .assign (.tmp 23), t25, s25, f25, none⟩] false).seq Code.ret))))
      (bodyPost Try.prog fn fun x V => ∃ v, x = .returned v ∧ v.oneCell' = true ∧ mEntryS.own V (fun q => w.heap.size ≤ q ∧ q < V.heap.size) [v] (es.map enX) ∧ Below w.heap.size w V) ⟨#[.slice ad n cp] ++ Array.replicate (fn.ntmps - (#[.slice ad n cp] : Array Value).size) undef, []⟩ w := by
  have hsz : (⟨#[.slice ad n cp] ++ Array.replicate (fn.ntmps - (#[.slice ad n cp] : Array Value).size) undef, []⟩ : Act).tmps.size = 24 := by
    rw [Array.size_append, Array.size_replicate, hN]
    rfl
  have hdf : (⟨#[.slice ad n cp] ++ Array.replicate (fn.ntmps - (#[.slice ad n cp] : Array Value).size) undef, []⟩ : Act).defers = [] := rfl
  have h00 : (⟨#[.slice ad n cp] ++ Array.replicate (fn.ntmps - (#[.slice ad n cp] : Array Value).size) undef, []⟩ : Act).eval (.tmp 0) = .slice ad n cp := frame_0
  generalize (⟨#[.slice ad n cp] ++ Array.replicate (fn.ntmps - (#[.slice ad n cp] : Array Value).size) undef, []⟩ : Act) = a at *
  refine wp_seq (wp_region_list (wpl_assign (wpl_nil (wp_seq (wp_region_list ?_)))))
  refine wpl_move ?_
  rw [put_ne (by omega), h00]
  have ea : ∀ u0 : Value, Act.eval ((a.put (some 2) u0).put (some 6) (.slice ad n cp)) (.tmp 6) = .slice ad n cp := fun u0 => put_eq (by rw [put_sz]; omega)
  refine wpl_call ⟨_, Try.func113, by kernel_rfl, by kernel_rfl⟩ (R := fun x V => ∃ a' c', x = .returned (.slice a' n c') ∧ OwnG KEn 113 V w.heap.size (.slice a' n c') es ∧ Below w.heap.size w V) ?_ ?_
  · have hc := cloneEn ad n cp es w hn hR hl
    simpa only [List.map_toArray, List.map_cons, List.map_nil, ea] using hc
  rintro x V ⟨a', c, rfl, ho, hb⟩
  refine ⟨_, rfl, ?_⟩
  refine wpl_assign (wpl_nil ?_)
  rw [put_eq (by rw [put_sz, put_sz]; omega)]
  have hX3 : ∀ u0 u1 u2 u3 : Value, Act.eval ((((a.put (some 2) u0).put (some 6) u1).put (some 7) u2).put (some 3) u3) (.tmp 3) = u3 := fun u0 u1 u2 u3 => put_eq (by rw [put_sz, put_sz, put_sz]; omega)
  rcases own_box ho with ⟨hv, rfl⟩ | ⟨p, c2, zs, hv, hpw, hpV, hbx⟩
  · simp only [Value.slice.injEq] at hv
    obtain ⟨rfl, rfl, rfl⟩ := hv
    refine rng_loop (o := none) (n := 0) (c := 0) (rs := 3) (N := 24) (X := fun a => a.eval (.tmp 3) = .slice none 0 0) (D := fun _ W => W = V) (fun a t v h ht => (put_ne (by omega)).trans h) (fun a v h => (put_ne (by omega)).trans h) (by decide) (by kernel_rfl) (by omega) (hX3 ..) (put_df.trans (put_df.trans (put_df.trans (put_df.trans hdf)))) (by rw [put_sz, put_sz, put_sz, put_sz]; exact hsz) (hX3 ..) rfl (fun i a W hi => by omega) ?_
    intro a W h
    have hW : W = V := h.d
    subst hW
    exact tail_ret h.x h.sz h.df (by decide) hres ⟨_, rfl, rfl, .inl ⟨rfl, none, 0, rfl⟩, hb⟩
  · simp only [Value.slice.injEq] at hv
    obtain ⟨rfl, hne, rfl⟩ := hv
    subst hn
    refine rng_loop (o := some ⟨p, 0, none⟩) (n := es.length) (c := c) (rs := 3) (N := 24) (X := fun a => a.eval (.tmp 3) = .slice (some ⟨p, 0, none⟩) es.length c) (D := OeD w p zs es) (fun a t v h ht => (put_ne (by omega)).trans h) (fun a v h => (put_ne (by omega)).trans h) (by decide) (by kernel_rfl) (by omega) (hX3 ..) (put_df.trans (put_df.trans (put_df.trans (put_df.trans hdf)))) (by rw [put_sz, put_sz, put_sz, put_sz]; exact hsz) (hX3 ..) ⟨⟨es.map KEn.cs, fun _ _ => False, by rw [← gflat_map]; exact hbx, by rw [List.length_map], fun us hm => by obtain ⟨e, _, rfl⟩ := List.mem_map.1 hm; rfl, fun j us e h1 h2 => ⟨fun h => absurd h (Nat.not_lt_zero _), fun _ => by rw [List.getElem?_map, h2] at h1; exact (Option.some.inj h1).symm⟩, fun _ _ h => h.elim, fun _ _ _ h => h.elim⟩, hb⟩ ?_ ?_
    · intro i a W hi h Q' kq
      exact ownEnt_body es w p c zs hpw hD hz i a W hi h Q' kq
    · intro a W h
      exact tail_ret h.x h.sz h.df (by decide) hres ⟨_, rfl, rfl, h.d.all hpw (by omega), h.d.bl⟩
theorem ownEnt_c (ad : Option Addr) (n cp : Nat) (es : List En) (w : World) (hn : n = es.length) (hR : RowG KEn w ad es) (hD : ∀ e ∈ es, DatR w e) (hl : n ≤ 1048576) (hz : ∀ e ∈ es, e.n ≤ 1048576) :
    Calls Try.prog 97 #[.slice ad n cp] w fun x V => ∃ v, x = .returned v ∧ v.oneCell' = true ∧ mEntryS.own V (fun q => w.heap.size ≤ q ∧ q < V.heap.size) [v] (es.map enX) ∧ Below w.heap.size w V := by
  refine calls_of_wp Try.func97 rfl ?_
  exact ownEnt_walk rfl rfl ad n cp es w hn hR hD hl hz
end

end Go.Proofs.Ytmfbmnpfgbenmaa
