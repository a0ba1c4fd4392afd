/-
  Loops over a row, whatever stands in it.
-/
import Derived.Test.YtjiplphfpkhmpaaGreatE6
namespace Go.Proofs.YtjiplphfpkhmpaaGreat
open Go.RowKit

section
variable {P : Program} {a : Act} {W : World} {Q : Exit → Act → World → Prop} {y body : Code} {w : World} {N : Nat}

theorem wpl_index {ops : Array Oper} {rest : List Oper} {d : Option Tmp} {ty : TypeId} {ps : String} {af : Array Edge} {x z : Operand} {t e : TypeId} {p o n c i k : Nat} (ht : P.underlying t = some (.slice e)) (hk : (P.info? e).map (·.size) = some k) (hx : a.eval x = .slice (some ⟨p, o, none⟩) n c) (hz : a.eval z = .int .i64 i) (hi : i < n)
    (h : wpList P ops Q rest (a.put d (.pointer (some ⟨p, o + i * k, none⟩))) W) : wpList P ops Q (⟨d, .indexAddr t x z, ty, ps, af, none⟩ :: rest) a W := by
  refine wpl_val (v := .pointer (some ⟨p, o + i * k, none⟩)) (w' := W) ?_ h
  cases hq : P.info? e with
  | none => simp [hq] at hk
  | some j =>
    have hz' : j.size = k := by simpa [hq] using hk
    have h0 : (0 : Int) ≤ (i : Int) ∧ (i : Int) < (n : Int) := by omega
    simp [execOp, Instr.indexAt, asIntOf, Sem.run_bind, run_underlying ht, hx, hz, sizeOf, typeInfo, hq, hz', add_E, hi]
theorem fl_len {k : Nat} : ∀ {uss : List (List Value)}, (∀ us ∈ uss, us.length = k) → uss.flatten.length = uss.length * k
  | [], _ => by simp
  | us :: t, h => by
    have h1 := h us (List.mem_cons_self ..)
    have h2 := fl_len (uss := t) (fun v hv => h v (List.mem_cons_of_mem _ hv))
    rw [List.flatten_cons, List.length_append, h1, h2, List.length_cons, Nat.add_mul]
    omega
theorem fl_at {uss : List (List Value)} {j : Nat} {us : List Value} (h : uss[j]? = some us) : uss.flatten = (uss.take j).flatten ++ (us ++ (uss.drop (j + 1)).flatten) := by
  have hj := (List.getElem?_eq_some_iff.1 h).1
  have e : uss = uss.take j ++ (us :: uss.drop (j + 1)) := by
    conv => lhs; rw [← List.take_append_drop j uss]
    rw [List.drop_eq_getElem_cons hj, (List.getElem?_eq_some_iff.1 h).2]
  conv => lhs; rw [e]
  rw [List.flatten_append, List.flatten_cons]

/-- What holds at the head of a round. -/
structure Inv (o : Option Addr) (n c ci N : Nat) (X : Nat → Act → Prop) (D : Nat → World → Prop) (i : Nat) (a : Act) (W : World) : Prop where
  hi : a.eval (.tmp ci) = .int .i64 i
  s : a.eval (.tmp 0) = .slice o n c
  df : a.defers = []
  sz : a.tmps.size = N
  x : X i a
  d : D i W
/-- What holds behind its body. -/
structure Mid (o : Option Addr) (n c ci N : Nat) (X : Nat → Act → Prop) (D : Nat → World → Prop) (i : Nat) (a : Act) (W : World) : Prop where
  hi : a.eval (.tmp ci) = .int .i64 i
  s : a.eval (.tmp 0) = .slice o n c
  df : a.defers = []
  sz : a.tmps.size = N
  x : X (i + 1) a
  d : D (i + 1) W

variable {o : Option Addr} {n c ci : Nat} {X : Nat → Act → Prop} {D : Nat → World → Prop} {t0 t1 t2 t3 t4 t5 t6 t7 : TypeId} {s0 s1 s2 s3 s4 s5 s6 s7 : String} {f0 f1 f2 f3 f4 f5 f6 f7 : Array Edge} {r2 r3 r4 b0 b1 : Nat}
theorem Inv.put {i t : Nat} {v : Value} (h : Inv o n c ci N X D i a W) (hX : ∀ i a t v, X i a → ci < t → X i (a.put (some t) v)) (hc : 0 < ci) (ht : ci < t) : Inv o n c ci N X D i (a.put (some t) v) W :=
  ⟨(put_ne (by omega)).trans h.hi, (put_ne (by omega)).trans h.s, put_df.trans h.df, put_sz.trans h.sz, hX i a t v h.x ht, h.d⟩

theorem row_loop {ti tj tl tk tm : TypeId} (hX : ∀ i a t v, X i a → ci < t → X i (a.put (some t) v)) (hXc : ∀ i a v, X i a → X i (a.put (some ci) v)) {t8 t9 t10 t11 t12 t13 : Nat} (hc : 0 < ci) (hd : ci < t8 ∧ t8 < t9 ∧ t9 < t10 ∧ t10 < t11 ∧ t11 < t12 ∧ t12 < t13 ∧ t13 < N) (hl : (match P.underlying tl with | some (.slice _) => true | _ => false) = true)
    (hn : n < 9223372036854775807) (h0 : X 0 a) (hD : D 0 W) (hs : a.eval (.tmp 0) = .slice o n c) (hdf : a.defers = []) (hsz : a.tmps.size = N)
    (hb : ∀ i a W, i < n → Inv o n c ci N X D i a W → ∀ Q' : Exit → Act → World → Prop, (∀ a' W', Mid o n c ci N X D i a' W' → Q' .normal a' W') → (∀ a' W', Q .ret a' W' → Q' .ret a' W') → (∀ c a d v w, Q' (.panic c) (a.put d v) w → Q' (.panic c) a w) → body.wp P Q' a W) (hpn : ∀ c a d v w, Q (.panic c) (a.put d v) w → Q (.panic c) a w)
    (k : ∀ a W, Inv o n c ci N X D n a W → y.wp P Q a W) :
    Code.wp P (((Code.region r2 #[⟨some ci, .assign (.const (.int .i64 0)), t0, s0, f0, none⟩] false).seq (Code.block b0 (Code.loop
      (((Code.region r3 #[⟨some t8, .move (.tmp ci), t1, s1, f1, none⟩, ⟨some t9, .move (.tmp 0), t2, s2, f2, none⟩, ⟨some t10, .call { callee := .builtin .len, args := #[.tmp t9], argTypes := #[tl] }, t3, s3, f3, none⟩, ⟨some t11, .binOp .lss ti (.tmp t8) (.tmp t10) tj, t4, s4, f4, none⟩] false).seq (Code.cond (.tmp t11) Code.skip (Code.exit b0))).seq
        ((Code.block b1 body).seq (Code.region r4 #[⟨some t12, .move (.tmp ci), t5, s5, f5, none⟩, ⟨some t13, .binOp .add tk (.tmp t12) (.const (.int .i64 1)) tm, t6, s6, f6, none⟩, ⟨some ci, .assign (.tmp t13), t7, s7, f7, none⟩] false)))))).seq y) Q a W := by
  obtain ⟨k0, k1, k2, k3, k4, k5, k6⟩ := hd
  refine wp_seq (wp_seq (wp_region_list (wpl_assign (wpl_nil (wp_block ?_)))))
  refine wp_loop (fun a W => ∃ i, i ≤ n ∧ Inv o n c ci N X D i a W) (fun a _ => n - (match a.eval (.tmp ci) with | .int _ z => z.toNat | _ => 0)) ⟨0, Nat.zero_le _, put_eq (by omega), (put_ne (by omega)).trans hs, put_df.trans hdf, put_sz.trans hsz, hXc _ _ _ h0, hD⟩ ?_
  rintro a W ⟨i, hin, h⟩
  have hz := h.sz
  refine wp_seq (wp_seq (wp_region_list ?_))
  refine wpl_move ?_
  rw [h.hi]
  have g := h.put (v := .int .i64 i) hX hc k0
  refine wpl_move ?_
  rw [g.s]
  have g2 := g.put (v := .slice o n c) hX hc (t := t9) (by omega)
  refine wpl_len hl (put_eq (by rw [put_sz]; omega)) ?_
  have g3 := g2.put (v := .int .i64 n) hX hc (t := t10) (by omega)
  refine wpl_bin (u := .int .i64 i) (v := .int .i64 n) ((put_ne (by omega)).trans ((put_ne (by omega)).trans (put_eq (by omega)))) (put_eq (by rw [put_sz, put_sz]; omega)) (run_lss W) (wpl_nil ?_)
  have g4 := g3.put (v := .bool (decide ((i : Int) < (n : Int)))) hX hc (t := t11) (by omega)
  by_cases hlt : i < n
  · rw [decide_eq_true (by omega : (i : Int) < (n : Int))] at g4 ⊢
    refine wp_cond_true (put_eq (by rw [put_sz, put_sz, put_sz]; omega)) (wp_skip ?_)
    refine wp_seq (wp_block ?_)
    refine hb i _ W hlt g4 _ ?_ (fun a' W' hq => hq) (fun c a d v w hq => hpn c a d v w hq)
    intro a' W' m
    have mz := m.sz
    refine wp_region_list ?_
    refine wpl_move ?_
    rw [m.hi]
    refine wpl_bin (u := .int .i64 i) (v := .int .i64 1) (put_eq (by omega)) rfl (run_inc W' (by omega) (by omega)) ?_
    refine wpl_assign (wpl_nil ?_)
    rw [put_eq (by rw [put_sz]; omega)]
    refine ⟨⟨i + 1, hlt, ⟨put_eq (by rw [put_sz, put_sz]; omega), (put_ne (by omega)).trans ((put_ne (by omega)).trans ((put_ne (by omega)).trans m.s)), put_df.trans (put_df.trans (put_df.trans m.df)), put_sz.trans (put_sz.trans (put_sz.trans mz)), hXc _ _ _ (hX _ _ _ _ (hX _ _ _ _ m.x (by omega)) (by omega)), m.d⟩⟩, ?_⟩
    have e1 : (((a'.put (some t12) (.int .i64 i)).put (some t13) (.int .i64 ((i : Int) + 1))).put (some ci) (.int .i64 ((i : Int) + 1))).eval (.tmp ci) = .int .i64 ((i : Int) + 1) := put_eq (by rw [put_sz, put_sz]; omega)
    simp only [e1]
    show n - ((i : Int) + 1).toNat < n - (i : Int).toNat
    omega
  · have he : i = n := by omega
    subst he
    rw [decide_eq_false (by omega : ¬ (i : Int) < (i : Int))] at g4 ⊢
    refine wp_cond_false (put_eq (by rw [put_sz, put_sz, put_sz]; omega)) (wp_exit ?_)
    simp only [Exit.then, Exit.inBlock, if_true]
    exact k _ W g4
end

section
variable {P : Program} {α : Type} {T : Cd α} {t0 t1 t2 t3 t4 t5 t6 t7 t8 t9 : TypeId} {t10 t11 t12 t13 t14 t15 t16 t17 t18 t19 t20 t21 t22 t23 t24 t25 : TypeId} {s0 s1 s2 s3 s4 s5 s6 s7 s8 s9 s10 s11 s12 s13 s14 s15 s16 s17 s18 s19 s20 s21 s22 s23 s24 s25 : String} {f0 f1 f2 f3 f4 f5 f6 f7 f8 f9 f10 f11 f12 f13 f14 f15 f16 f17 f18 f19 f20 f21 f22 f23 f24 f25 : Array Edge} {r0 r1 r2 r3 r4 r5 r6 b0 b1 : Nat}

/-- So many of a row are copied. -/
structure RoT (T : Cd α) (w : World) (n : Nat) (xs : List α) (i : Nat) (W : World) : Prop where
  bl : Below w.heap.size w W
  ex : ∃ (uss : List (List Value)) (zs : List Value), uss.length = i ∧ zs.length = (n - i) * T.k ∧ Box W w.heap.size (uss.flatten ++ zs) ∧ ∀ (j : Nat) (us : List Value) (x : α), uss[j]? = some us → xs[j]? = some x → T.rep W (w.heap.size + 1) us x
theorem RoT.all {w W : World} {n : Nat} {xs : List α} (h : RoT T w n xs n W) (hn : n = xs.length) (h9 : n ≤ 9223372036854775807) : (cRow T).rep W w.heap.size [.slice (some ⟨w.heap.size, 0, none⟩) n n] xs := by
  obtain ⟨uss, zs, hl, hz, hb, hr⟩ := h.ex
  rw [Nat.sub_self, Nat.zero_mul] at hz
  have : zs = [] := List.length_eq_zero_iff.1 hz
  subst this
  refine ⟨some ⟨w.heap.size, 0, none⟩, n, by rw [hn], by omega, fun j x hx => ?_⟩
  have hj := (List.getElem?_eq_some_iff.1 hx).1
  have hu : uss[j]? = some uss[j] := List.getElem?_eq_getElem (by omega)
  have hT := hr j _ x hu hx
  refine ⟨w.heap.size, 0, uss[j], rfl, Nat.le_refl _, hb.lt, ?_, T.low hT (by omega)⟩
  have e := fl_at hu
  rw [List.append_nil, e] at hb
  refine Box.seg hb ?_
  have hlen : ∀ us ∈ uss.take j, us.length = T.k := fun us hm => by
    obtain ⟨m, hm'⟩ := List.mem_iff_getElem?.1 (List.mem_of_mem_take hm)
    have hml := (List.getElem?_eq_some_iff.1 hm').1
    exact T.len (hr m us xs[m] hm' (List.getElem?_eq_getElem (by omega)))
  rw [fl_len hlen, List.length_take, Nat.zero_add]
  congr 1
  omega
/-- One more. -/
theorem RoT.next {w W V U : World} {n i : Nat} {xs : List α} (h : RoT T w n xs i W) (hi : i < n) (hn : n = xs.length) {x : α} (hx : xs[i]? = some x) (hb : Below W.heap.size W V) {vs : List Value} (hv : T.rep V W.heap.size vs x)
    (hU : V.grownBy U (some w.heap.size)) (hs : ∀ qs bs cs : List Value, qs.length = i * T.k → bs.length = T.k → Box V w.heap.size (qs ++ (bs ++ cs)) → Box U w.heap.size (qs ++ (vs ++ cs))) : RoT T w n xs (i + 1) U := by
  obtain ⟨uss, zs, hl, hz, hbx, hr⟩ := h.ex
  have hlt := hbx.lt
  have hlen : ∀ us ∈ uss, us.length = T.k := fun us hm => by
    obtain ⟨m, hm'⟩ := List.mem_iff_getElem?.1 hm
    have hml := (List.getElem?_eq_some_iff.1 hm').1
    exact T.len (hr m us xs[m] hm' (List.getElem?_eq_getElem (by omega)))
  have hz2 : zs.length = T.k + (n - (i + 1)) * T.k := by
    rw [hz, show n - i = (n - (i + 1)) + 1 by omega, Nat.add_mul]
    omega
  have hB := hs uss.flatten (zs.take T.k) (zs.drop T.k) (by rw [fl_len hlen, hl]) (by rw [List.length_take]; omega) (by rw [List.take_append_drop]; exact hbx.later hb)
  refine ⟨?_, uss ++ [vs], zs.drop T.k, by rw [List.length_append, hl]; rfl, by rw [List.length_drop]; omega, ?_, ?_⟩
  · have hb5 := h.bl.trans (hb.mono h.bl.size)
    exact hb5.grown hU hb5.size (fun q hq => by have := Option.some.inj hq; omega)
  · rw [List.flatten_append, List.flatten_cons, List.flatten_nil, List.append_nil, List.append_assoc]; exact hB
  · intro j us y hu hy
    have hf : Fr (w.heap.size + 1) V U := Fr.row hU (by omega)
    by_cases hj : j < i
    · rw [List.getElem?_append_left (by omega)] at hu
      exact T.frm (T.lat (hr j us y hu hy) hb) hf
    · rw [List.getElem?_append_right (by omega)] at hu
      have hj2 : j = i := by
        rcases Nat.lt_or_ge (j - uss.length) 1 with h1 | h1
        · omega
        · rw [List.getElem?_eq_none (by simpa using h1)] at hu; cases hu
      subst hj2
      rw [hl, Nat.sub_self] at hu
      obtain rfl : vs = us := Option.some.inj hu
      rw [hx] at hy
      obtain rfl := Option.some.inj hy
      exact T.frm (T.low hv (by omega)) hf

/-- A row of such can be made. -/
def mkB (P : Program) (e : TypeId) (k : Nat) : Bool := match P.info? e with | some i => i.zero.isSome && (i.size == k && decide (i.bytes ≤ 1000)) | none => false
/-- A row of noughts is made. -/
theorem wpl_make {a : Act} {W : World} {Q : Exit → Act → World → Prop} {ops : Array Oper} {rest : List Oper} {d : Option Tmp} {ty : TypeId} {ps : String} {af : Array Edge} {x : Operand} {t e : TypeId} {n k : Nat} (ht : P.underlying t = some (.slice e)) (hi : mkB P e k = true)
    (hx : a.eval x = .int .i64 n) (hn : n ≤ 1048576) (h : ∀ V zs, zs.length = n * k → Box V W.heap.size zs → Below W.heap.size W V → wpList P ops Q rest (a.put d (.slice (some ⟨W.heap.size, 0, none⟩) n n)) V) : wpList P ops Q (⟨d, .makeSlice t x x, ty, ps, af, none⟩ :: rest) a W := by
  obtain ⟨i, h2, z, h3, h4, h5⟩ : ∃ i, P.info? e = some i ∧ ∃ z, i.zero = some z ∧ i.size = k ∧ i.bytes ≤ 1000 := by
    unfold mkB at hi
    cases hq : P.info? e with
    | none => rw [hq] at hi; cases hi
    | some i =>
      rw [hq] at hi
      simp only [Bool.and_eq_true, beq_iff_eq, decide_eq_true_eq] at hi
      obtain ⟨z, hz⟩ := Option.isSome_iff_exists.1 hi.1
      exact ⟨i, rfl, z, hz, hi.2.1, hi.2.2⟩
  have hbm : i.bytes * n ≤ 1000 * 1048576 := Nat.mul_le_mul (by omega) hn
  refine wpList_make_full W rfl x x t rfl W.heap.size e i z k ht h2 h3 h4 .i64 .i64 n n n hx hx rfl rfl (by omega) (by unfold maxLen; omega) (Nat.le_refl _) ?_
  intro V hown hg
  refine h V (madeCells z.cells (n * k)).toList (by rw [Array.length_toList, size_madeCells]) ?_ ((Below.refl _ W).grown hg (Nat.le_refl _) (fun q hq => by cases hq))
  obtain ⟨hl, hc⟩ := hown
  rcases hc with ⟨hv, _⟩ | ⟨g, cap, cur, hv, _, hgp, h1, _, hs, ht⟩
  · cases hv
  · simp only [Value.slice.injEq, Option.some.injEq, Addr.mk.injEq, and_true, true_and] at hv
    obtain ⟨rfl, rfl⟩ := hv
    refine ⟨e, ?_⟩
    rw [hgp]
    congr 1
    have : cur.toList = (madeCells z.cells (n * k)).toList := by
      rw [← ht, List.take_of_length_le (by rw [Array.length_toList]; omega)]
    rw [← this]
end

end Go.Proofs.YtjiplphfpkhmpaaGreat
