/-
  Functions that mark: their steps.
-/
import Derived.Test.YtmfbmnpfgbenmaaZW19
import Derived.Test.YtmfbmnpfgbenmaaZW22
namespace Go.Proofs.Ytmfbmnpfgbenmaa
open Go.RowKit

section
variable {P : Program} {a : Act} {W : World} {Q : Exit → Act → World → Prop} {α : Type} {A : Mw α} {w : World} {F F1 F2 : Nat → Prop} {p : Nat} {pre todo : List Value} {x : α} {k0 : Int} {N ci i o n c K id : Nat} {tA eA tx : TypeId} {t0 t1 t2 t3 t4 t5 t6 t7 t8 t9 t10 t11 t12 t13 : TypeId} {s0 s1 s2 s3 s4 s5 s6 s7 s8 s9 s10 s11 s12 s13 : String} {f0 f1 f2 f3 f4 f5 f6 f7 f8 f9 f10 f11 f12 f13 : Array Edge}
theorem u8_lo (k : Int) : 0 ≤ IntKind.u8.wrap k := by rw [IntKind.wrap_u8]; omega
theorem u8_hi (k : Int) : IntKind.u8.wrap k ≤ 255 := by rw [IntKind.wrap_u8]; omega
theorem put_none {a : Act} {v : Value} : a.put none v = a := rfl
theorem wpl_fieldo {ops : Array Oper} {rest : List Oper} {d : Option Tmp} {ty : TypeId} {ps : String} {af : Array Edge} {t : TypeId} {x : Operand} {i off p o : Nat} (hx : a.eval x = .pointer (some ⟨p, o, none⟩)) (h : fldB P t i off = true) (k : wpList P ops Q rest (a.put d (.pointer (some ⟨p, o + off, none⟩))) W) : wpList P ops Q (⟨d, .fieldAddr t x i, ty, ps, af, none⟩ :: rest) a W := by
  refine wpl_val (v := .pointer (some ⟨p, o + off, none⟩)) (w' := W) ?_ k
  unfold fldB at h
  cases hu : P.underlying t with
  | none => rw [hu] at h; cases h
  | some e =>
    rw [hu] at h
    cases e with
    | struct fs =>
      dsimp only at h
      cases hf : fs[i]? with
      | none => rw [hf] at h; cases h
      | some f =>
        rw [hf] at h
        dsimp only at h
        cases hj : P.info? f.type with
        | none => rw [hj] at h; simp at h
        | some j =>
          rw [hj] at h
          simp at h
          obtain ⟨h1, h2⟩ := h
          simp [execOp, hx, Instr.fieldAt, Sem.run_bind, run_underlying hu, hf, Instr.sureAddr, fieldPlace, sizeOf, typeInfo, hj, h2, h1, add_E]
    | _ => cases h
theorem wpl_conv {ops : Array Oper} {rest : List Oper} {d : Option Tmp} {ty : TypeId} {ps : String} {af : Array Edge} {x : Operand} {tc td : TypeId} {k : Int} (h1 : P.underlying tc = some (.int .i64)) (h2 : P.underlying td = some (.int .u8)) (hx : a.eval x = .int .i64 k)
    (h : wpList P ops Q rest (a.put d (.int .u8 (IntKind.u8.wrap k))) W) : wpList P ops Q (⟨d, .convert tc td x, ty, ps, af, none⟩ :: rest) a W := by
  refine wpl_val (v := .int .u8 (IntKind.u8.wrap k)) (w' := W) ?_ h
  simp [execOp, hx, convert, Sem.run_bind, run_underlying h1, run_underlying h2, Conv.intToInt]
theorem run_rem3 {ti : TypeId} {x y : Operand} {m : Int} (w : World) (h : 0 ≤ m) : (do eqGuard .rem ti x y (.int .i64 m) (.int .i64 3); binOp .rem ti (.int .i64 m) (.int .i64 3) : Sem Value).run P w = .ok (.int .i64 (m % 3)) w := by
  have e : m.tmod 3 = m % 3 := Int.tmod_eq_emod_of_nonneg h
  simp [eqGuard, binOp, Op.intDiv, e]
theorem run_eq0 {ti : TypeId} {x y : Operand} {m : Int} (w : World) : (do eqGuard .eql ti x y (.int .i64 m) (.int .i64 0); binOp .eql ti (.int .i64 m) (.int .i64 0) : Sem Value).run P w = .ok (.bool (decide (m = 0))) w := by
  simp [eqGuard, binOp, Op.intCmp]
  rfl
/-- The count goes up by one. -/
theorem me_inc {N ci i n c id e0 e1 : Nat} {o : Option Addr} {k k' : Int} {tk tm : TypeId} (S : Sl N ci i o n c k a) (h1c : 1 < ci) (hd : ci < e0 ∧ e0 < e1 ∧ e1 < N) (h0 : 0 ≤ k) (h1 : k < 9223372036854775807) (he : k' = k + 1)
    (kc : ∀ a', Sl N ci i o n c k' a' → (∀ t, 1 < t → t < e0 → a'.eval (.tmp t) = a.eval (.tmp t)) → Q .normal a' W) :
    Code.wp P (Code.region id #[⟨some e0, .move (.tmp 1), t0, s0, f0, none⟩, ⟨some e1, .binOp .add tk (.tmp e0) (.const (.int .i64 1)) tm, t1, s1, f1, none⟩, ⟨some 1, .assign (.tmp e1), t2, s2, f2, none⟩] false) Q a W := by
  subst he
  have hz := S.sz
  obtain ⟨q0, q1, q2⟩ := hd
  refine wp_region_list ?_
  refine wpl_move ?_
  rw [S.hk]
  refine wpl_bin (u := .int .i64 k) (v := .int .i64 1) (put_eq (by omega)) rfl (run_inc W h0 h1) ?_
  refine wpl_assign (wpl_nil ?_)
  rw [put_eq (by rw [put_sz]; omega)]
  exact kc _ (((S.put h1c q0 _).put h1c (by omega) _).set h1c (by omega) _) (fun t h2 h3 => (put_ne (by omega)).trans ((put_ne (by omega)).trans (put_ne (by omega))))
theorem me_i0 {e0 e1 e2 e3 : Nat} {k : Int} {v : Value} (M : Me A w F p pre ([v] ++ todo) x k0 W) (S : Sl N ci i (some ⟨p, o, none⟩) n c k a) (hk : k = k0 + A.cntF x) (h1c : 1 < ci) (hd : ci < e0 ∧ e0 < e1 ∧ e1 < e2 ∧ e2 < e3 ∧ e3 < N) (hA : P.underlying tA = some (.slice eA)) (hkA : (P.info? eA).map (·.size) = some K) (ht : (P.info? tx).map (·.size) = some 1) (hi : i < n) (np : ¬ F p) (b : Int) {m0 : Nat} (hK : A.cd.k = m0) (hp : pre.length + m0 = o + i * K)
    (kc : ∀ a' V, Sl N ci i (some ⟨p, o, none⟩) n c k a' → Me (mTwo A mInt) w F p pre todo (x, b) k0 V → Q .normal a' V) :
    Code.wp P (Code.region id #[⟨some e0, .move (.tmp 0), t0, s0, f0, none⟩, ⟨some e1, .move (.tmp ci), t1, s1, f1, none⟩, ⟨some e2, .move (.tmp 1), t2, s2, f2, none⟩, ⟨some e3, .indexAddr tA (.tmp e0) (.tmp e1), t3, s3, f3, none⟩, ⟨none, .store tx (.tmp e3) (.tmp e2), t4, s4, f4, none⟩] false) Q a W := by
  have hz := S.sz
  obtain ⟨q0, q1, q2, q3, q4⟩ := hd
  refine wp_region_list ?_
  refine wpl_move ?_
  rw [S.s]
  refine wpl_move ?_
  rw [show Act.eval (a.put (some e0) (.slice (some ⟨p, o, none⟩) n c)) (.tmp ci) = .int .i64 i from ((put_ne (by omega)).trans (S.hi))]
  refine wpl_move ?_
  rw [show Act.eval ((a.put (some e0) (.slice (some ⟨p, o, none⟩) n c)).put (some e1) (.int .i64 i)) (.tmp 1) = .int .i64 k from ((put_ne (by omega)).trans ((put_ne (by omega)).trans (S.hk)))]
  refine wpl_index hA hkA ((put_ne (by omega)).trans ((put_ne (by omega)).trans (put_eq (by omega)))) ((put_ne (by omega)).trans (put_eq (by rw [put_sz]; omega))) hi ?_
  obtain ⟨done, x', h1, h2, h3, h4, h5⟩ := M.ex
  rw [← List.append_assoc] at h2
  refine wpl_store rfl tx (.tmp e3) (.tmp e2) rfl (put_eq (by rw [put_sz, put_sz, put_sz]; omega)) ((put_ne (by omega)).trans (put_eq (by rw [put_sz, put_sz]; omega))) [.int .i64 k] (pre ++ done) [v] todo rfl (one1 rfl) ht rfl h2 (by rw [List.length_append, h1, hK]; exact hp) rfl ?_
  intro V hV hg _
  have S9 : Sl N ci i (some ⟨p, o, none⟩) n c k ((((a.put (some e0) (.slice (some ⟨p, o, none⟩) n c)).put (some e1) (.int .i64 i)).put (some e2) (.int .i64 k)).put (some e3) (.pointer (some ⟨p, o + i * K, none⟩))) := ⟨((put_ne (by omega)).trans ((put_ne (by omega)).trans ((put_ne (by omega)).trans ((put_ne (by omega)).trans (S.hi))))), ((put_ne (by omega)).trans ((put_ne (by omega)).trans ((put_ne (by omega)).trans ((put_ne (by omega)).trans (S.s))))), ((put_ne (by omega)).trans ((put_ne (by omega)).trans ((put_ne (by omega)).trans ((put_ne (by omega)).trans (S.hk))))), (put_df.trans (put_df.trans (put_df.trans (put_df.trans (S.df))))), (by rw [put_sz, put_sz, put_sz, put_sz]; exact S.sz)⟩
  rw [put_none]
  refine wpl_nil (kc _ V S9 ?_)
  subst hk
  exact Me.cell (T := mInt) (b := b) (b' := k0 + A.cntF x) (vs' := [.int .i64 (k0 + A.cntF x)]) h1 h3 h4 h5 M.chg np (fun _ => rfl) rfl rfl rfl (Chg.row hg) (by rw [List.append_assoc] at hV; exact hV)
theorem me_i1 {g0 : TypeId} {j0 l0 : Nat} {e0 e1 e2 e3 e4 : Nat} {k : Int} {v : Value} (M : Me A w F p pre ([v] ++ todo) x k0 W) (S : Sl N ci i (some ⟨p, o, none⟩) n c k a) (hk : k = k0 + A.cntF x) (h1c : 1 < ci) (hd : ci < e0 ∧ e0 < e1 ∧ e1 < e2 ∧ e2 < e3 ∧ e3 < e4 ∧ e4 < N) (hA : P.underlying tA = some (.slice eA)) (hkA : (P.info? eA).map (·.size) = some K) (hf0 : fldB P g0 j0 l0 = true) (ht : (P.info? tx).map (·.size) = some 1) (hi : i < n) (np : ¬ F p) (b : Int) {m0 : Nat} (hK : A.cd.k = m0) (hp : pre.length + m0 = o + i * K + l0)
    (kc : ∀ a' V, Sl N ci i (some ⟨p, o, none⟩) n c k a' → Me (mTwo A mInt) w F p pre todo (x, b) k0 V → Q .normal a' V) :
    Code.wp P (Code.region id #[⟨some e0, .move (.tmp 0), t0, s0, f0, none⟩, ⟨some e1, .move (.tmp ci), t1, s1, f1, none⟩, ⟨some e2, .move (.tmp 1), t2, s2, f2, none⟩, ⟨some e3, .indexAddr tA (.tmp e0) (.tmp e1), t3, s3, f3, none⟩, ⟨some e4, .fieldAddr g0 (.tmp e3) j0, t4, s4, f4, none⟩, ⟨none, .store tx (.tmp e4) (.tmp e2), t5, s5, f5, none⟩] false) Q a W := by
  have hz := S.sz
  obtain ⟨q0, q1, q2, q3, q4, q5⟩ := hd
  refine wp_region_list ?_
  refine wpl_move ?_
  rw [S.s]
  refine wpl_move ?_
  rw [show Act.eval (a.put (some e0) (.slice (some ⟨p, o, none⟩) n c)) (.tmp ci) = .int .i64 i from ((put_ne (by omega)).trans (S.hi))]
  refine wpl_move ?_
  rw [show Act.eval ((a.put (some e0) (.slice (some ⟨p, o, none⟩) n c)).put (some e1) (.int .i64 i)) (.tmp 1) = .int .i64 k from ((put_ne (by omega)).trans ((put_ne (by omega)).trans (S.hk)))]
  refine wpl_index hA hkA ((put_ne (by omega)).trans ((put_ne (by omega)).trans (put_eq (by omega)))) ((put_ne (by omega)).trans (put_eq (by rw [put_sz]; omega))) hi ?_
  refine wpl_fieldo (put_eq (by rw [put_sz, put_sz, put_sz]; omega)) hf0 ?_
  obtain ⟨done, x', h1, h2, h3, h4, h5⟩ := M.ex
  rw [← List.append_assoc] at h2
  refine wpl_store rfl tx (.tmp e4) (.tmp e2) rfl (put_eq (by rw [put_sz, put_sz, put_sz, put_sz]; omega)) ((put_ne (by omega)).trans ((put_ne (by omega)).trans (put_eq (by rw [put_sz, put_sz]; omega)))) [.int .i64 k] (pre ++ done) [v] todo rfl (one1 rfl) ht rfl h2 (by rw [List.length_append, h1, hK]; exact hp) rfl ?_
  intro V hV hg _
  have S9 : Sl N ci i (some ⟨p, o, none⟩) n c k (((((a.put (some e0) (.slice (some ⟨p, o, none⟩) n c)).put (some e1) (.int .i64 i)).put (some e2) (.int .i64 k)).put (some e3) (.pointer (some ⟨p, o + i * K, none⟩))).put (some e4) (.pointer (some ⟨p, o + i * K + l0, none⟩))) := ⟨((put_ne (by omega)).trans ((put_ne (by omega)).trans ((put_ne (by omega)).trans ((put_ne (by omega)).trans ((put_ne (by omega)).trans (S.hi)))))), ((put_ne (by omega)).trans ((put_ne (by omega)).trans ((put_ne (by omega)).trans ((put_ne (by omega)).trans ((put_ne (by omega)).trans (S.s)))))), ((put_ne (by omega)).trans ((put_ne (by omega)).trans ((put_ne (by omega)).trans ((put_ne (by omega)).trans ((put_ne (by omega)).trans (S.hk)))))), (put_df.trans (put_df.trans (put_df.trans (put_df.trans (put_df.trans (S.df)))))), (by rw [put_sz, put_sz, put_sz, put_sz, put_sz]; exact S.sz)⟩
  rw [put_none]
  refine wpl_nil (kc _ V S9 ?_)
  subst hk
  exact Me.cell (T := mInt) (b := b) (b' := k0 + A.cntF x) (vs' := [.int .i64 (k0 + A.cntF x)]) h1 h3 h4 h5 M.chg np (fun _ => rfl) rfl rfl rfl (Chg.row hg) (by rw [List.append_assoc] at hV; exact hV)
theorem me_i2 {g0 : TypeId} {j0 l0 : Nat} {g1 : TypeId} {j1 l1 : Nat} {e0 e1 e2 e3 e4 e5 : Nat} {k : Int} {v : Value} (M : Me A w F p pre ([v] ++ todo) x k0 W) (S : Sl N ci i (some ⟨p, o, none⟩) n c k a) (hk : k = k0 + A.cntF x) (h1c : 1 < ci) (hd : ci < e0 ∧ e0 < e1 ∧ e1 < e2 ∧ e2 < e3 ∧ e3 < e4 ∧ e4 < e5 ∧ e5 < N) (hA : P.underlying tA = some (.slice eA)) (hkA : (P.info? eA).map (·.size) = some K) (hf0 : fldB P g0 j0 l0 = true) (hf1 : fldB P g1 j1 l1 = true) (ht : (P.info? tx).map (·.size) = some 1) (hi : i < n) (np : ¬ F p) (b : Int) {m0 : Nat} (hK : A.cd.k = m0) (hp : pre.length + m0 = o + i * K + l0 + l1)
    (kc : ∀ a' V, Sl N ci i (some ⟨p, o, none⟩) n c k a' → Me (mTwo A mInt) w F p pre todo (x, b) k0 V → Q .normal a' V) :
    Code.wp P (Code.region id #[⟨some e0, .move (.tmp 0), t0, s0, f0, none⟩, ⟨some e1, .move (.tmp ci), t1, s1, f1, none⟩, ⟨some e2, .move (.tmp 1), t2, s2, f2, none⟩, ⟨some e3, .indexAddr tA (.tmp e0) (.tmp e1), t3, s3, f3, none⟩, ⟨some e4, .fieldAddr g0 (.tmp e3) j0, t4, s4, f4, none⟩, ⟨some e5, .fieldAddr g1 (.tmp e4) j1, t5, s5, f5, none⟩, ⟨none, .store tx (.tmp e5) (.tmp e2), t6, s6, f6, none⟩] false) Q a W := by
  have hz := S.sz
  obtain ⟨q0, q1, q2, q3, q4, q5, q6⟩ := hd
  refine wp_region_list ?_
  refine wpl_move ?_
  rw [S.s]
  refine wpl_move ?_
  rw [show Act.eval (a.put (some e0) (.slice (some ⟨p, o, none⟩) n c)) (.tmp ci) = .int .i64 i from ((put_ne (by omega)).trans (S.hi))]
  refine wpl_move ?_
  rw [show Act.eval ((a.put (some e0) (.slice (some ⟨p, o, none⟩) n c)).put (some e1) (.int .i64 i)) (.tmp 1) = .int .i64 k from ((put_ne (by omega)).trans ((put_ne (by omega)).trans (S.hk)))]
  refine wpl_index hA hkA ((put_ne (by omega)).trans ((put_ne (by omega)).trans (put_eq (by omega)))) ((put_ne (by omega)).trans (put_eq (by rw [put_sz]; omega))) hi ?_
  refine wpl_fieldo (put_eq (by rw [put_sz, put_sz, put_sz]; omega)) hf0 ?_
  refine wpl_fieldo (put_eq (by rw [put_sz, put_sz, put_sz, put_sz]; omega)) hf1 ?_
  obtain ⟨done, x', h1, h2, h3, h4, h5⟩ := M.ex
  rw [← List.append_assoc] at h2
  refine wpl_store rfl tx (.tmp e5) (.tmp e2) rfl (put_eq (by rw [put_sz, put_sz, put_sz, put_sz, put_sz]; omega)) ((put_ne (by omega)).trans ((put_ne (by omega)).trans ((put_ne (by omega)).trans (put_eq (by rw [put_sz, put_sz]; omega))))) [.int .i64 k] (pre ++ done) [v] todo rfl (one1 rfl) ht rfl h2 (by rw [List.length_append, h1, hK]; exact hp) rfl ?_
  intro V hV hg _
  have S9 : Sl N ci i (some ⟨p, o, none⟩) n c k ((((((a.put (some e0) (.slice (some ⟨p, o, none⟩) n c)).put (some e1) (.int .i64 i)).put (some e2) (.int .i64 k)).put (some e3) (.pointer (some ⟨p, o + i * K, none⟩))).put (some e4) (.pointer (some ⟨p, o + i * K + l0, none⟩))).put (some e5) (.pointer (some ⟨p, o + i * K + l0 + l1, none⟩))) := ⟨((put_ne (by omega)).trans ((put_ne (by omega)).trans ((put_ne (by omega)).trans ((put_ne (by omega)).trans ((put_ne (by omega)).trans ((put_ne (by omega)).trans (S.hi))))))), ((put_ne (by omega)).trans ((put_ne (by omega)).trans ((put_ne (by omega)).trans ((put_ne (by omega)).trans ((put_ne (by omega)).trans ((put_ne (by omega)).trans (S.s))))))), ((put_ne (by omega)).trans ((put_ne (by omega)).trans ((put_ne (by omega)).trans ((put_ne (by omega)).trans ((put_ne (by omega)).trans ((put_ne (by omega)).trans (S.hk))))))), (put_df.trans (put_df.trans (put_df.trans (put_df.trans (put_df.trans (put_df.trans (S.df))))))), (by rw [put_sz, put_sz, put_sz, put_sz, put_sz, put_sz]; exact S.sz)⟩
  rw [put_none]
  refine wpl_nil (kc _ V S9 ?_)
  subst hk
  exact Me.cell (T := mInt) (b := b) (b' := k0 + A.cntF x) (vs' := [.int .i64 (k0 + A.cntF x)]) h1 h3 h4 h5 M.chg np (fun _ => rfl) rfl rfl rfl (Chg.row hg) (by rw [List.append_assoc] at hV; exact hV)
theorem me_i3 {g0 : TypeId} {j0 l0 : Nat} {g1 : TypeId} {j1 l1 : Nat} {g2 : TypeId} {j2 l2 : Nat} {e0 e1 e2 e3 e4 e5 e6 : Nat} {k : Int} {v : Value} (M : Me A w F p pre ([v] ++ todo) x k0 W) (S : Sl N ci i (some ⟨p, o, none⟩) n c k a) (hk : k = k0 + A.cntF x) (h1c : 1 < ci) (hd : ci < e0 ∧ e0 < e1 ∧ e1 < e2 ∧ e2 < e3 ∧ e3 < e4 ∧ e4 < e5 ∧ e5 < e6 ∧ e6 < N) (hA : P.underlying tA = some (.slice eA)) (hkA : (P.info? eA).map (·.size) = some K) (hf0 : fldB P g0 j0 l0 = true) (hf1 : fldB P g1 j1 l1 = true) (hf2 : fldB P g2 j2 l2 = true) (ht : (P.info? tx).map (·.size) = some 1) (hi : i < n) (np : ¬ F p) (b : Int) {m0 : Nat} (hK : A.cd.k = m0) (hp : pre.length + m0 = o + i * K + l0 + l1 + l2)
    (kc : ∀ a' V, Sl N ci i (some ⟨p, o, none⟩) n c k a' → Me (mTwo A mInt) w F p pre todo (x, b) k0 V → Q .normal a' V) :
    Code.wp P (Code.region id #[⟨some e0, .move (.tmp 0), t0, s0, f0, none⟩, ⟨some e1, .move (.tmp ci), t1, s1, f1, none⟩, ⟨some e2, .move (.tmp 1), t2, s2, f2, none⟩, ⟨some e3, .indexAddr tA (.tmp e0) (.tmp e1), t3, s3, f3, none⟩, ⟨some e4, .fieldAddr g0 (.tmp e3) j0, t4, s4, f4, none⟩, ⟨some e5, .fieldAddr g1 (.tmp e4) j1, t5, s5, f5, none⟩, ⟨some e6, .fieldAddr g2 (.tmp e5) j2, t6, s6, f6, none⟩, ⟨none, .store tx (.tmp e6) (.tmp e2), t7, s7, f7, none⟩] false) Q a W := by
  have hz := S.sz
  obtain ⟨q0, q1, q2, q3, q4, q5, q6, q7⟩ := hd
  refine wp_region_list ?_
  refine wpl_move ?_
  rw [S.s]
  refine wpl_move ?_
  rw [show Act.eval (a.put (some e0) (.slice (some ⟨p, o, none⟩) n c)) (.tmp ci) = .int .i64 i from ((put_ne (by omega)).trans (S.hi))]
  refine wpl_move ?_
  rw [show Act.eval ((a.put (some e0) (.slice (some ⟨p, o, none⟩) n c)).put (some e1) (.int .i64 i)) (.tmp 1) = .int .i64 k from ((put_ne (by omega)).trans ((put_ne (by omega)).trans (S.hk)))]
  refine wpl_index hA hkA ((put_ne (by omega)).trans ((put_ne (by omega)).trans (put_eq (by omega)))) ((put_ne (by omega)).trans (put_eq (by rw [put_sz]; omega))) hi ?_
  refine wpl_fieldo (put_eq (by rw [put_sz, put_sz, put_sz]; omega)) hf0 ?_
  refine wpl_fieldo (put_eq (by rw [put_sz, put_sz, put_sz, put_sz]; omega)) hf1 ?_
  refine wpl_fieldo (put_eq (by rw [put_sz, put_sz, put_sz, put_sz, put_sz]; omega)) hf2 ?_
  obtain ⟨done, x', h1, h2, h3, h4, h5⟩ := M.ex
  rw [← List.append_assoc] at h2
  refine wpl_store rfl tx (.tmp e6) (.tmp e2) rfl (put_eq (by rw [put_sz, put_sz, put_sz, put_sz, put_sz, put_sz]; omega)) ((put_ne (by omega)).trans ((put_ne (by omega)).trans ((put_ne (by omega)).trans ((put_ne (by omega)).trans (put_eq (by rw [put_sz, put_sz]; omega)))))) [.int .i64 k] (pre ++ done) [v] todo rfl (one1 rfl) ht rfl h2 (by rw [List.length_append, h1, hK]; exact hp) rfl ?_
  intro V hV hg _
  have S9 : Sl N ci i (some ⟨p, o, none⟩) n c k (((((((a.put (some e0) (.slice (some ⟨p, o, none⟩) n c)).put (some e1) (.int .i64 i)).put (some e2) (.int .i64 k)).put (some e3) (.pointer (some ⟨p, o + i * K, none⟩))).put (some e4) (.pointer (some ⟨p, o + i * K + l0, none⟩))).put (some e5) (.pointer (some ⟨p, o + i * K + l0 + l1, none⟩))).put (some e6) (.pointer (some ⟨p, o + i * K + l0 + l1 + l2, none⟩))) := ⟨((put_ne (by omega)).trans ((put_ne (by omega)).trans ((put_ne (by omega)).trans ((put_ne (by omega)).trans ((put_ne (by omega)).trans ((put_ne (by omega)).trans ((put_ne (by omega)).trans (S.hi)))))))), ((put_ne (by omega)).trans ((put_ne (by omega)).trans ((put_ne (by omega)).trans ((put_ne (by omega)).trans ((put_ne (by omega)).trans ((put_ne (by omega)).trans ((put_ne (by omega)).trans (S.s)))))))), ((put_ne (by omega)).trans ((put_ne (by omega)).trans ((put_ne (by omega)).trans ((put_ne (by omega)).trans ((put_ne (by omega)).trans ((put_ne (by omega)).trans ((put_ne (by omega)).trans (S.hk)))))))), (put_df.trans (put_df.trans (put_df.trans (put_df.trans (put_df.trans (put_df.trans (put_df.trans (S.df)))))))), (by rw [put_sz, put_sz, put_sz, put_sz, put_sz, put_sz, put_sz]; exact S.sz)⟩
  rw [put_none]
  refine wpl_nil (kc _ V S9 ?_)
  subst hk
  exact Me.cell (T := mInt) (b := b) (b' := k0 + A.cntF x) (vs' := [.int .i64 (k0 + A.cntF x)]) h1 h3 h4 h5 M.chg np (fun _ => rfl) rfl rfl rfl (Chg.row hg) (by rw [List.append_assoc] at hV; exact hV)
theorem me_i4 {g0 : TypeId} {j0 l0 : Nat} {g1 : TypeId} {j1 l1 : Nat} {g2 : TypeId} {j2 l2 : Nat} {g3 : TypeId} {j3 l3 : Nat} {e0 e1 e2 e3 e4 e5 e6 e7 : Nat} {k : Int} {v : Value} (M : Me A w F p pre ([v] ++ todo) x k0 W) (S : Sl N ci i (some ⟨p, o, none⟩) n c k a) (hk : k = k0 + A.cntF x) (h1c : 1 < ci) (hd : ci < e0 ∧ e0 < e1 ∧ e1 < e2 ∧ e2 < e3 ∧ e3 < e4 ∧ e4 < e5 ∧ e5 < e6 ∧ e6 < e7 ∧ e7 < N) (hA : P.underlying tA = some (.slice eA)) (hkA : (P.info? eA).map (·.size) = some K) (hf0 : fldB P g0 j0 l0 = true) (hf1 : fldB P g1 j1 l1 = true) (hf2 : fldB P g2 j2 l2 = true) (hf3 : fldB P g3 j3 l3 = true) (ht : (P.info? tx).map (·.size) = some 1) (hi : i < n) (np : ¬ F p) (b : Int) {m0 : Nat} (hK : A.cd.k = m0) (hp : pre.length + m0 = o + i * K + l0 + l1 + l2 + l3)
    (kc : ∀ a' V, Sl N ci i (some ⟨p, o, none⟩) n c k a' → Me (mTwo A mInt) w F p pre todo (x, b) k0 V → Q .normal a' V) :
    Code.wp P (Code.region id #[⟨some e0, .move (.tmp 0), t0, s0, f0, none⟩, ⟨some e1, .move (.tmp ci), t1, s1, f1, none⟩, ⟨some e2, .move (.tmp 1), t2, s2, f2, none⟩, ⟨some e3, .indexAddr tA (.tmp e0) (.tmp e1), t3, s3, f3, none⟩, ⟨some e4, .fieldAddr g0 (.tmp e3) j0, t4, s4, f4, none⟩, ⟨some e5, .fieldAddr g1 (.tmp e4) j1, t5, s5, f5, none⟩, ⟨some e6, .fieldAddr g2 (.tmp e5) j2, t6, s6, f6, none⟩, ⟨some e7, .fieldAddr g3 (.tmp e6) j3, t7, s7, f7, none⟩, ⟨none, .store tx (.tmp e7) (.tmp e2), t8, s8, f8, none⟩] false) Q a W := by
  have hz := S.sz
  obtain ⟨q0, q1, q2, q3, q4, q5, q6, q7, q8⟩ := hd
  refine wp_region_list ?_
  refine wpl_move ?_
  rw [S.s]
  refine wpl_move ?_
  rw [show Act.eval (a.put (some e0) (.slice (some ⟨p, o, none⟩) n c)) (.tmp ci) = .int .i64 i from ((put_ne (by omega)).trans (S.hi))]
  refine wpl_move ?_
  rw [show Act.eval ((a.put (some e0) (.slice (some ⟨p, o, none⟩) n c)).put (some e1) (.int .i64 i)) (.tmp 1) = .int .i64 k from ((put_ne (by omega)).trans ((put_ne (by omega)).trans (S.hk)))]
  refine wpl_index hA hkA ((put_ne (by omega)).trans ((put_ne (by omega)).trans (put_eq (by omega)))) ((put_ne (by omega)).trans (put_eq (by rw [put_sz]; omega))) hi ?_
  refine wpl_fieldo (put_eq (by rw [put_sz, put_sz, put_sz]; omega)) hf0 ?_
  refine wpl_fieldo (put_eq (by rw [put_sz, put_sz, put_sz, put_sz]; omega)) hf1 ?_
  refine wpl_fieldo (put_eq (by rw [put_sz, put_sz, put_sz, put_sz, put_sz]; omega)) hf2 ?_
  refine wpl_fieldo (put_eq (by rw [put_sz, put_sz, put_sz, put_sz, put_sz, put_sz]; omega)) hf3 ?_
  obtain ⟨done, x', h1, h2, h3, h4, h5⟩ := M.ex
  rw [← List.append_assoc] at h2
  refine wpl_store rfl tx (.tmp e7) (.tmp e2) rfl (put_eq (by rw [put_sz, put_sz, put_sz, put_sz, put_sz, put_sz, put_sz]; omega)) ((put_ne (by omega)).trans ((put_ne (by omega)).trans ((put_ne (by omega)).trans ((put_ne (by omega)).trans ((put_ne (by omega)).trans (put_eq (by rw [put_sz, put_sz]; omega))))))) [.int .i64 k] (pre ++ done) [v] todo rfl (one1 rfl) ht rfl h2 (by rw [List.length_append, h1, hK]; exact hp) rfl ?_
  intro V hV hg _
  have S9 : Sl N ci i (some ⟨p, o, none⟩) n c k ((((((((a.put (some e0) (.slice (some ⟨p, o, none⟩) n c)).put (some e1) (.int .i64 i)).put (some e2) (.int .i64 k)).put (some e3) (.pointer (some ⟨p, o + i * K, none⟩))).put (some e4) (.pointer (some ⟨p, o + i * K + l0, none⟩))).put (some e5) (.pointer (some ⟨p, o + i * K + l0 + l1, none⟩))).put (some e6) (.pointer (some ⟨p, o + i * K + l0 + l1 + l2, none⟩))).put (some e7) (.pointer (some ⟨p, o + i * K + l0 + l1 + l2 + l3, none⟩))) := ⟨((put_ne (by omega)).trans ((put_ne (by omega)).trans ((put_ne (by omega)).trans ((put_ne (by omega)).trans ((put_ne (by omega)).trans ((put_ne (by omega)).trans ((put_ne (by omega)).trans ((put_ne (by omega)).trans (S.hi))))))))), ((put_ne (by omega)).trans ((put_ne (by omega)).trans ((put_ne (by omega)).trans ((put_ne (by omega)).trans ((put_ne (by omega)).trans ((put_ne (by omega)).trans ((put_ne (by omega)).trans ((put_ne (by omega)).trans (S.s))))))))), ((put_ne (by omega)).trans ((put_ne (by omega)).trans ((put_ne (by omega)).trans ((put_ne (by omega)).trans ((put_ne (by omega)).trans ((put_ne (by omega)).trans ((put_ne (by omega)).trans ((put_ne (by omega)).trans (S.hk))))))))), (put_df.trans (put_df.trans (put_df.trans (put_df.trans (put_df.trans (put_df.trans (put_df.trans (put_df.trans (S.df))))))))), (by rw [put_sz, put_sz, put_sz, put_sz, put_sz, put_sz, put_sz, put_sz]; exact S.sz)⟩
  rw [put_none]
  refine wpl_nil (kc _ V S9 ?_)
  subst hk
  exact Me.cell (T := mInt) (b := b) (b' := k0 + A.cntF x) (vs' := [.int .i64 (k0 + A.cntF x)]) h1 h3 h4 h5 M.chg np (fun _ => rfl) rfl rfl rfl (Chg.row hg) (by rw [List.append_assoc] at hV; exact hV)
theorem me_B0 {e0 e1 e2 e3 e4 : Nat} {k : Int} {v : Value} (M : Me A w F p pre ([v] ++ todo) x k0 W) (S : Sl N ci i (some ⟨p, o, none⟩) n c k a) (hk : k = k0 + A.cntF x) (h1c : 1 < ci) (hd : ci < e0 ∧ e0 < e1 ∧ e1 < e2 ∧ e2 < e3 ∧ e3 < e4 ∧ e4 < N) (hA : P.underlying tA = some (.slice eA)) (hkA : (P.info? eA).map (·.size) = some K) (ht : (P.info? tx).map (·.size) = some 1) {tc td : TypeId} (hc1 : P.underlying tc = some (.int .i64)) (hc2 : P.underlying td = some (.int .u8)) (hi : i < n) (np : ¬ F p) (b : Int) {m0 : Nat} (hK : A.cd.k = m0) (hp : pre.length + m0 = o + i * K)
    (kc : ∀ a' V, Sl N ci i (some ⟨p, o, none⟩) n c k a' → Me (mTwo A mByte) w F p pre todo (x, b) k0 V → Q .normal a' V) :
    Code.wp P (Code.region id #[⟨some e0, .move (.tmp 0), t0, s0, f0, none⟩, ⟨some e1, .move (.tmp ci), t1, s1, f1, none⟩, ⟨some e2, .move (.tmp 1), t2, s2, f2, none⟩, ⟨some e3, .convert tc td (.tmp e2), t3, s3, f3, none⟩, ⟨some e4, .indexAddr tA (.tmp e0) (.tmp e1), t4, s4, f4, none⟩, ⟨none, .store tx (.tmp e4) (.tmp e3), t5, s5, f5, none⟩] false) Q a W := by
  have hz := S.sz
  obtain ⟨q0, q1, q2, q3, q4, q5⟩ := hd
  refine wp_region_list ?_
  refine wpl_move ?_
  rw [S.s]
  refine wpl_move ?_
  rw [show Act.eval (a.put (some e0) (.slice (some ⟨p, o, none⟩) n c)) (.tmp ci) = .int .i64 i from ((put_ne (by omega)).trans (S.hi))]
  refine wpl_move ?_
  rw [show Act.eval ((a.put (some e0) (.slice (some ⟨p, o, none⟩) n c)).put (some e1) (.int .i64 i)) (.tmp 1) = .int .i64 k from ((put_ne (by omega)).trans ((put_ne (by omega)).trans (S.hk)))]
  refine wpl_conv hc1 hc2 (put_eq (by rw [put_sz, put_sz]; omega)) ?_
  refine wpl_index hA hkA ((put_ne (by omega)).trans ((put_ne (by omega)).trans ((put_ne (by omega)).trans (put_eq (by omega))))) ((put_ne (by omega)).trans ((put_ne (by omega)).trans (put_eq (by rw [put_sz]; omega)))) hi ?_
  obtain ⟨done, x', h1, h2, h3, h4, h5⟩ := M.ex
  rw [← List.append_assoc] at h2
  refine wpl_store rfl tx (.tmp e4) (.tmp e3) rfl (put_eq (by rw [put_sz, put_sz, put_sz, put_sz]; omega)) ((put_ne (by omega)).trans (put_eq (by rw [put_sz, put_sz, put_sz]; omega))) [.int .u8 (IntKind.u8.wrap k)] (pre ++ done) [v] todo rfl (one1 rfl) ht rfl h2 (by rw [List.length_append, h1, hK]; exact hp) rfl ?_
  intro V hV hg _
  have S9 : Sl N ci i (some ⟨p, o, none⟩) n c k (((((a.put (some e0) (.slice (some ⟨p, o, none⟩) n c)).put (some e1) (.int .i64 i)).put (some e2) (.int .i64 k)).put (some e3) (.int .u8 (IntKind.u8.wrap k))).put (some e4) (.pointer (some ⟨p, o + i * K, none⟩))) := ⟨((put_ne (by omega)).trans ((put_ne (by omega)).trans ((put_ne (by omega)).trans ((put_ne (by omega)).trans ((put_ne (by omega)).trans (S.hi)))))), ((put_ne (by omega)).trans ((put_ne (by omega)).trans ((put_ne (by omega)).trans ((put_ne (by omega)).trans ((put_ne (by omega)).trans (S.s)))))), ((put_ne (by omega)).trans ((put_ne (by omega)).trans ((put_ne (by omega)).trans ((put_ne (by omega)).trans ((put_ne (by omega)).trans (S.hk)))))), (put_df.trans (put_df.trans (put_df.trans (put_df.trans (put_df.trans (S.df)))))), (by rw [put_sz, put_sz, put_sz, put_sz, put_sz]; exact S.sz)⟩
  rw [put_none]
  refine wpl_nil (kc _ V S9 ?_)
  subst hk
  exact Me.cell (T := mByte) (b := b) (b' := (IntKind.u8.wrap (k0 + A.cntF x))) (vs' := [.int .u8 (IntKind.u8.wrap (k0 + A.cntF x))]) h1 h3 h4 h5 M.chg np (fun _ => ⟨rfl, u8_lo _, u8_hi _⟩) rfl rfl rfl (Chg.row hg) (by rw [List.append_assoc] at hV; exact hV)
theorem me_b1 {g0 : TypeId} {j0 l0 : Nat} {e0 e1 e2 e3 e4 e5 e6 : Nat} {k : Int} {v : Value} (M : Me A w F p pre ([v] ++ todo) x k0 W) (S : Sl N ci i (some ⟨p, o, none⟩) n c k a) (hk : k = k0 + A.cntF x) (h1c : 1 < ci) (hd : ci < e0 ∧ e0 < e1 ∧ e1 < e2 ∧ e2 < e3 ∧ e3 < e4 ∧ e4 < e5 ∧ e5 < e6 ∧ e6 < N) (hA : P.underlying tA = some (.slice eA)) (hkA : (P.info? eA).map (·.size) = some K) (hf0 : fldB P g0 j0 l0 = true) (ht : (P.info? tx).map (·.size) = some 1) {tc td tf tg : TypeId} (h0 : 0 ≤ k) (hi : i < n) (np : ¬ F p) (b : Bool) {m0 : Nat} (hK : A.cd.k = m0) (hp : pre.length + m0 = o + i * K + l0)
    (kc : ∀ a' V, Sl N ci i (some ⟨p, o, none⟩) n c k a' → Me (mTwo A mBool) w F p pre todo (x, b) k0 V → Q .normal a' V) :
    Code.wp P (Code.region id #[⟨some e0, .move (.tmp 0), t0, s0, f0, none⟩, ⟨some e1, .move (.tmp ci), t1, s1, f1, none⟩, ⟨some e2, .move (.tmp 1), t2, s2, f2, none⟩, ⟨some e3, .binOp .rem tc (.tmp e2) (.const (.int .i64 3)) td, t3, s3, f3, none⟩, ⟨some e4, .binOp .eql tf (.tmp e3) (.const (.int .i64 0)) tg, t4, s4, f4, none⟩, ⟨some e5, .indexAddr tA (.tmp e0) (.tmp e1), t5, s5, f5, none⟩, ⟨some e6, .fieldAddr g0 (.tmp e5) j0, t6, s6, f6, none⟩, ⟨none, .store tx (.tmp e6) (.tmp e4), t7, s7, f7, none⟩] false) Q a W := by
  have hz := S.sz
  obtain ⟨q0, q1, q2, q3, q4, q5, q6, q7⟩ := hd
  refine wp_region_list ?_
  refine wpl_move ?_
  rw [S.s]
  refine wpl_move ?_
  rw [show Act.eval (a.put (some e0) (.slice (some ⟨p, o, none⟩) n c)) (.tmp ci) = .int .i64 i from ((put_ne (by omega)).trans (S.hi))]
  refine wpl_move ?_
  rw [show Act.eval ((a.put (some e0) (.slice (some ⟨p, o, none⟩) n c)).put (some e1) (.int .i64 i)) (.tmp 1) = .int .i64 k from ((put_ne (by omega)).trans ((put_ne (by omega)).trans (S.hk)))]
  refine wpl_bin (u := .int .i64 k) (v := .int .i64 3) (put_eq (by rw [put_sz, put_sz]; omega)) rfl (run_rem3 W h0) ?_
  refine wpl_bin (u := .int .i64 (k % 3)) (v := .int .i64 0) (put_eq (by rw [put_sz, put_sz, put_sz]; omega)) rfl (run_eq0 W) ?_
  refine wpl_index hA hkA ((put_ne (by omega)).trans ((put_ne (by omega)).trans ((put_ne (by omega)).trans ((put_ne (by omega)).trans (put_eq (by omega)))))) ((put_ne (by omega)).trans ((put_ne (by omega)).trans ((put_ne (by omega)).trans (put_eq (by rw [put_sz]; omega))))) hi ?_
  refine wpl_fieldo (put_eq (by rw [put_sz, put_sz, put_sz, put_sz, put_sz]; omega)) hf0 ?_
  obtain ⟨done, x', h1, h2, h3, h4, h5⟩ := M.ex
  rw [← List.append_assoc] at h2
  refine wpl_store rfl tx (.tmp e6) (.tmp e4) rfl (put_eq (by rw [put_sz, put_sz, put_sz, put_sz, put_sz, put_sz]; omega)) ((put_ne (by omega)).trans ((put_ne (by omega)).trans (put_eq (by rw [put_sz, put_sz, put_sz, put_sz]; omega)))) [.bool (decide (k % 3 = 0))] (pre ++ done) [v] todo rfl (one1 rfl) ht rfl h2 (by rw [List.length_append, h1, hK]; exact hp) rfl ?_
  intro V hV hg _
  have S9 : Sl N ci i (some ⟨p, o, none⟩) n c k (((((((a.put (some e0) (.slice (some ⟨p, o, none⟩) n c)).put (some e1) (.int .i64 i)).put (some e2) (.int .i64 k)).put (some e3) (.int .i64 (k % 3))).put (some e4) (.bool (decide (k % 3 = 0)))).put (some e5) (.pointer (some ⟨p, o + i * K, none⟩))).put (some e6) (.pointer (some ⟨p, o + i * K + l0, none⟩))) := ⟨((put_ne (by omega)).trans ((put_ne (by omega)).trans ((put_ne (by omega)).trans ((put_ne (by omega)).trans ((put_ne (by omega)).trans ((put_ne (by omega)).trans ((put_ne (by omega)).trans (S.hi)))))))), ((put_ne (by omega)).trans ((put_ne (by omega)).trans ((put_ne (by omega)).trans ((put_ne (by omega)).trans ((put_ne (by omega)).trans ((put_ne (by omega)).trans ((put_ne (by omega)).trans (S.s)))))))), ((put_ne (by omega)).trans ((put_ne (by omega)).trans ((put_ne (by omega)).trans ((put_ne (by omega)).trans ((put_ne (by omega)).trans ((put_ne (by omega)).trans ((put_ne (by omega)).trans (S.hk)))))))), (put_df.trans (put_df.trans (put_df.trans (put_df.trans (put_df.trans (put_df.trans (put_df.trans (S.df)))))))), (by rw [put_sz, put_sz, put_sz, put_sz, put_sz, put_sz, put_sz]; exact S.sz)⟩
  rw [put_none]
  refine wpl_nil (kc _ V S9 ?_)
  subst hk
  exact Me.cell (T := mBool) (b := b) (b' := (decide ((k0 + A.cntF x) % 3 = 0))) (vs' := [.bool (decide ((k0 + A.cntF x) % 3 = 0))]) h1 h3 h4 h5 M.chg np (fun _ => rfl) rfl rfl rfl (Chg.row hg) (by rw [List.append_assoc] at hV; exact hV)
theorem me_c0 {e0 e1 e2 e3 e4 e5 : Nat} {k : Int} {β : Type} {T : Mw β} {b : β} {us : List Value} {f : FuncId} {ats : Array TypeId} (M : Me A w F1 p pre (us ++ todo) x k0 W) (S : Sl N ci i (some ⟨p, o, none⟩) n c k a) (hk : k = k0 + A.cntF x) (h1c : 1 < ci) (hd : ci < e0 ∧ e0 < e1 ∧ e1 < e2 ∧ e2 < e3 ∧ e3 < e4 ∧ e4 < e5 ∧ e5 < N) (hA : P.underlying tA = some (.slice eA)) (hkA : (P.info? eA).map (·.size) = some K) (ht : Sca P tx) (hi : i < n) {m0 : Nat} (hK : A.cd.k = m0) (hp : pre.length + m0 = o + i * K)
    (hk1 : T.cd.k = 1) (hv : ∀ x, T.cntV x = T.cntF x) (hy : ∀ x k, T.byv x k → T.ful x k) (hf : Fn P f) (hC : MkF P T v1 f) (h1k : 1 ≤ k) (hkb : k + T.cntV b ≤ 4611686018427387904) (np : ¬ F p) (b1 : ∀ q, F1 q → F q) (b2 : ∀ q, F2 q → F q) (dj : ∀ q, F1 q → ¬ F2 q) (hown : T.own W F2 us b)
    (kc : ∀ a' V, Sl N ci i (some ⟨p, o, none⟩) n c (k0 + ((mTwo A T).cntF (x, b) : Nat)) a' → Me (mTwo A T) w F p pre todo (x, b) k0 V → Q .normal a' V) :
    Code.wp P (Code.region id #[⟨some e0, .move (.tmp 0), t0, s0, f0, none⟩, ⟨some e1, .move (.tmp ci), t1, s1, f1, none⟩, ⟨some e2, .indexAddr tA (.tmp e0) (.tmp e1), t2, s2, f2, none⟩, ⟨some e3, .load tx (.tmp e2), t3, s3, f3, none⟩, ⟨some e4, .move (.tmp 1), t4, s4, f4, none⟩, ⟨some e5, .call { callee := .value (.func f), args := #[.tmp e3, .tmp e4], argTypes := ats }, t5, s5, f5, none⟩, ⟨some 1, .assign (.tmp e5), t6, s6, f6, none⟩] false) Q a W := by
  have hz := S.sz
  obtain ⟨q0, q1, q2, q3, q4, q5, q6⟩ := hd
  refine wp_region_list ?_
  refine wpl_move ?_
  rw [S.s]
  refine wpl_move ?_
  rw [show Act.eval (a.put (some e0) (.slice (some ⟨p, o, none⟩) n c)) (.tmp ci) = .int .i64 i from ((put_ne (by omega)).trans (S.hi))]
  refine wpl_index hA hkA ((put_ne (by omega)).trans (put_eq (by omega))) (put_eq (by rw [put_sz]; omega)) hi ?_
  obtain ⟨u, rfl⟩ : ∃ u, us = [u] := by
    have hn := (T.len hown).trans hk1
    cases us with
    | nil => cases hn
    | cons u t =>
      cases t with
      | nil => exact ⟨u, rfl⟩
      | cons _ _ => simp at hn
  have hcell : W.cell? ⟨p, o + i * K, none⟩ = some u := by
    obtain ⟨done, x', h1, h2, _⟩ := M.ex
    rw [← List.append_assoc] at h2
    exact (Box.seg h2 (by rw [List.length_append, h1, hK]; exact hp)).one
  refine wpl_loadS rfl tx (.tmp e2) rfl (put_eq (by rw [put_sz, put_sz]; omega)) u ht hcell ?_
  refine wpl_move ?_
  rw [show Act.eval ((((a.put (some e0) (.slice (some ⟨p, o, none⟩) n c)).put (some e1) (.int .i64 i)).put (some e2) (.pointer (some ⟨p, o + i * K, none⟩))).put (some e3) u) (.tmp 1) = .int .i64 k from ((put_ne (by omega)).trans ((put_ne (by omega)).trans ((put_ne (by omega)).trans ((put_ne (by omega)).trans (S.hk)))))]
  have ea : Act.eval (((((a.put (some e0) (.slice (some ⟨p, o, none⟩) n c)).put (some e1) (.int .i64 i)).put (some e2) (.pointer (some ⟨p, o + i * K, none⟩))).put (some e3) u).put (some e4) (.int .i64 k)) (.tmp e3) = u := ((put_ne (by omega)).trans (put_eq (by rw [put_sz, put_sz, put_sz]; omega)))
  have eb : Act.eval (((((a.put (some e0) (.slice (some ⟨p, o, none⟩) n c)).put (some e1) (.int .i64 i)).put (some e2) (.pointer (some ⟨p, o + i * K, none⟩))).put (some e3) u).put (some e4) (.int .i64 k)) (.tmp e4) = .int .i64 k := (put_eq (by rw [put_sz, put_sz, put_sz, put_sz]; omega))
  refine wpl_call hf (R := fun e V => e = .returned (.int .i64 (k + T.cntV b)) ∧ Chg F2 W V ∧ ∃ b', T.own V F2 [u] b' ∧ T.byv b' k ∧ T.cntV b' = T.cntV b) ?_ ?_
  · have hc := hC [u] b W F2 k hown h1k hkb
    simpa only [List.map_toArray, List.map_cons, List.map_nil, ea, eb, v1, List.headD_cons] using hc
  rintro e V ⟨rfl, hchg, b', g1, g2, g3⟩
  refine ⟨_, rfl, ?_⟩
  refine wpl_assign (wpl_nil ?_)
  rw [show Act.eval ((((((a.put (some e0) (.slice (some ⟨p, o, none⟩) n c)).put (some e1) (.int .i64 i)).put (some e2) (.pointer (some ⟨p, o + i * K, none⟩))).put (some e3) u).put (some e4) (.int .i64 k)).put (some e5) (.int .i64 (k + T.cntV b))) (.tmp e5) = .int .i64 (k + T.cntV b) from (put_eq (by rw [put_sz, put_sz, put_sz, put_sz, put_sz]; omega))]
  have S9 : Sl N ci i (some ⟨p, o, none⟩) n c k ((((((a.put (some e0) (.slice (some ⟨p, o, none⟩) n c)).put (some e1) (.int .i64 i)).put (some e2) (.pointer (some ⟨p, o + i * K, none⟩))).put (some e3) u).put (some e4) (.int .i64 k)).put (some e5) (.int .i64 (k + T.cntV b))) := ⟨((put_ne (by omega)).trans ((put_ne (by omega)).trans ((put_ne (by omega)).trans ((put_ne (by omega)).trans ((put_ne (by omega)).trans ((put_ne (by omega)).trans (S.hi))))))), ((put_ne (by omega)).trans ((put_ne (by omega)).trans ((put_ne (by omega)).trans ((put_ne (by omega)).trans ((put_ne (by omega)).trans ((put_ne (by omega)).trans (S.s))))))), ((put_ne (by omega)).trans ((put_ne (by omega)).trans ((put_ne (by omega)).trans ((put_ne (by omega)).trans ((put_ne (by omega)).trans ((put_ne (by omega)).trans (S.hk))))))), (put_df.trans (put_df.trans (put_df.trans (put_df.trans (put_df.trans (put_df.trans (S.df))))))), (by rw [put_sz, put_sz, put_sz, put_sz, put_sz, put_sz]; exact S.sz)⟩
  refine kc _ V ?_ (M.part np b1 b2 dj g1 (hy b' _ (by rw [← hk]; exact g2)) (by rw [← hv, ← hv, g3]) hchg)
  have e2 : k0 + ((mTwo A T).cntF (x, b) : Nat) = k + T.cntV b := by
    show k0 + ((A.cntF x + T.cntF b : Nat) : Int) = _
    rw [hk, hv]
    omega
  rw [e2]
  exact S9.set h1c (by omega) _
theorem me_c1 {g0 : TypeId} {j0 l0 : Nat} {e0 e1 e2 e3 e4 e5 e6 : Nat} {k : Int} {β : Type} {T : Mw β} {b : β} {us : List Value} {f : FuncId} {ats : Array TypeId} (M : Me A w F1 p pre (us ++ todo) x k0 W) (S : Sl N ci i (some ⟨p, o, none⟩) n c k a) (hk : k = k0 + A.cntF x) (h1c : 1 < ci) (hd : ci < e0 ∧ e0 < e1 ∧ e1 < e2 ∧ e2 < e3 ∧ e3 < e4 ∧ e4 < e5 ∧ e5 < e6 ∧ e6 < N) (hA : P.underlying tA = some (.slice eA)) (hkA : (P.info? eA).map (·.size) = some K) (hf0 : fldB P g0 j0 l0 = true) (ht : Sca P tx) (hi : i < n) {m0 : Nat} (hK : A.cd.k = m0) (hp : pre.length + m0 = o + i * K + l0)
    (hk1 : T.cd.k = 1) (hv : ∀ x, T.cntV x = T.cntF x) (hy : ∀ x k, T.byv x k → T.ful x k) (hf : Fn P f) (hC : MkF P T v1 f) (h1k : 1 ≤ k) (hkb : k + T.cntV b ≤ 4611686018427387904) (np : ¬ F p) (b1 : ∀ q, F1 q → F q) (b2 : ∀ q, F2 q → F q) (dj : ∀ q, F1 q → ¬ F2 q) (hown : T.own W F2 us b)
    (kc : ∀ a' V, Sl N ci i (some ⟨p, o, none⟩) n c (k0 + ((mTwo A T).cntF (x, b) : Nat)) a' → Me (mTwo A T) w F p pre todo (x, b) k0 V → Q .normal a' V) :
    Code.wp P (Code.region id #[⟨some e0, .move (.tmp 0), t0, s0, f0, none⟩, ⟨some e1, .move (.tmp ci), t1, s1, f1, none⟩, ⟨some e2, .indexAddr tA (.tmp e0) (.tmp e1), t2, s2, f2, none⟩, ⟨some e3, .fieldAddr g0 (.tmp e2) j0, t3, s3, f3, none⟩, ⟨some e4, .load tx (.tmp e3), t4, s4, f4, none⟩, ⟨some e5, .move (.tmp 1), t5, s5, f5, none⟩, ⟨some e6, .call { callee := .value (.func f), args := #[.tmp e4, .tmp e5], argTypes := ats }, t6, s6, f6, none⟩, ⟨some 1, .assign (.tmp e6), t7, s7, f7, none⟩] false) Q a W := by
  have hz := S.sz
  obtain ⟨q0, q1, q2, q3, q4, q5, q6, q7⟩ := hd
  refine wp_region_list ?_
  refine wpl_move ?_
  rw [S.s]
  refine wpl_move ?_
  rw [show Act.eval (a.put (some e0) (.slice (some ⟨p, o, none⟩) n c)) (.tmp ci) = .int .i64 i from ((put_ne (by omega)).trans (S.hi))]
  refine wpl_index hA hkA ((put_ne (by omega)).trans (put_eq (by omega))) (put_eq (by rw [put_sz]; omega)) hi ?_
  refine wpl_fieldo (put_eq (by rw [put_sz, put_sz]; omega)) hf0 ?_
  obtain ⟨u, rfl⟩ : ∃ u, us = [u] := by
    have hn := (T.len hown).trans hk1
    cases us with
    | nil => cases hn
    | cons u t =>
      cases t with
      | nil => exact ⟨u, rfl⟩
      | cons _ _ => simp at hn
  have hcell : W.cell? ⟨p, o + i * K + l0, none⟩ = some u := by
    obtain ⟨done, x', h1, h2, _⟩ := M.ex
    rw [← List.append_assoc] at h2
    exact (Box.seg h2 (by rw [List.length_append, h1, hK]; exact hp)).one
  refine wpl_loadS rfl tx (.tmp e3) rfl (put_eq (by rw [put_sz, put_sz, put_sz]; omega)) u ht hcell ?_
  refine wpl_move ?_
  rw [show Act.eval (((((a.put (some e0) (.slice (some ⟨p, o, none⟩) n c)).put (some e1) (.int .i64 i)).put (some e2) (.pointer (some ⟨p, o + i * K, none⟩))).put (some e3) (.pointer (some ⟨p, o + i * K + l0, none⟩))).put (some e4) u) (.tmp 1) = .int .i64 k from ((put_ne (by omega)).trans ((put_ne (by omega)).trans ((put_ne (by omega)).trans ((put_ne (by omega)).trans ((put_ne (by omega)).trans (S.hk))))))]
  have ea : Act.eval ((((((a.put (some e0) (.slice (some ⟨p, o, none⟩) n c)).put (some e1) (.int .i64 i)).put (some e2) (.pointer (some ⟨p, o + i * K, none⟩))).put (some e3) (.pointer (some ⟨p, o + i * K + l0, none⟩))).put (some e4) u).put (some e5) (.int .i64 k)) (.tmp e4) = u := ((put_ne (by omega)).trans (put_eq (by rw [put_sz, put_sz, put_sz, put_sz]; omega)))
  have eb : Act.eval ((((((a.put (some e0) (.slice (some ⟨p, o, none⟩) n c)).put (some e1) (.int .i64 i)).put (some e2) (.pointer (some ⟨p, o + i * K, none⟩))).put (some e3) (.pointer (some ⟨p, o + i * K + l0, none⟩))).put (some e4) u).put (some e5) (.int .i64 k)) (.tmp e5) = .int .i64 k := (put_eq (by rw [put_sz, put_sz, put_sz, put_sz, put_sz]; omega))
  refine wpl_call hf (R := fun e V => e = .returned (.int .i64 (k + T.cntV b)) ∧ Chg F2 W V ∧ ∃ b', T.own V F2 [u] b' ∧ T.byv b' k ∧ T.cntV b' = T.cntV b) ?_ ?_
  · have hc := hC [u] b W F2 k hown h1k hkb
    simpa only [List.map_toArray, List.map_cons, List.map_nil, ea, eb, v1, List.headD_cons] using hc
  rintro e V ⟨rfl, hchg, b', g1, g2, g3⟩
  refine ⟨_, rfl, ?_⟩
  refine wpl_assign (wpl_nil ?_)
  rw [show Act.eval (((((((a.put (some e0) (.slice (some ⟨p, o, none⟩) n c)).put (some e1) (.int .i64 i)).put (some e2) (.pointer (some ⟨p, o + i * K, none⟩))).put (some e3) (.pointer (some ⟨p, o + i * K + l0, none⟩))).put (some e4) u).put (some e5) (.int .i64 k)).put (some e6) (.int .i64 (k + T.cntV b))) (.tmp e6) = .int .i64 (k + T.cntV b) from (put_eq (by rw [put_sz, put_sz, put_sz, put_sz, put_sz, put_sz]; omega))]
  have S9 : Sl N ci i (some ⟨p, o, none⟩) n c k (((((((a.put (some e0) (.slice (some ⟨p, o, none⟩) n c)).put (some e1) (.int .i64 i)).put (some e2) (.pointer (some ⟨p, o + i * K, none⟩))).put (some e3) (.pointer (some ⟨p, o + i * K + l0, none⟩))).put (some e4) u).put (some e5) (.int .i64 k)).put (some e6) (.int .i64 (k + T.cntV b))) := ⟨((put_ne (by omega)).trans ((put_ne (by omega)).trans ((put_ne (by omega)).trans ((put_ne (by omega)).trans ((put_ne (by omega)).trans ((put_ne (by omega)).trans ((put_ne (by omega)).trans (S.hi)))))))), ((put_ne (by omega)).trans ((put_ne (by omega)).trans ((put_ne (by omega)).trans ((put_ne (by omega)).trans ((put_ne (by omega)).trans ((put_ne (by omega)).trans ((put_ne (by omega)).trans (S.s)))))))), ((put_ne (by omega)).trans ((put_ne (by omega)).trans ((put_ne (by omega)).trans ((put_ne (by omega)).trans ((put_ne (by omega)).trans ((put_ne (by omega)).trans ((put_ne (by omega)).trans (S.hk)))))))), (put_df.trans (put_df.trans (put_df.trans (put_df.trans (put_df.trans (put_df.trans (put_df.trans (S.df)))))))), (by rw [put_sz, put_sz, put_sz, put_sz, put_sz, put_sz, put_sz]; exact S.sz)⟩
  refine kc _ V ?_ (M.part np b1 b2 dj g1 (hy b' _ (by rw [← hk]; exact g2)) (by rw [← hv, ← hv, g3]) hchg)
  have e2 : k0 + ((mTwo A T).cntF (x, b) : Nat) = k + T.cntV b := by
    show k0 + ((A.cntF x + T.cntF b : Nat) : Int) = _
    rw [hk, hv]
    omega
  rw [e2]
  exact S9.set h1c (by omega) _
theorem me_c2 {g0 : TypeId} {j0 l0 : Nat} {g1 : TypeId} {j1 l1 : Nat} {e0 e1 e2 e3 e4 e5 e6 e7 : Nat} {k : Int} {β : Type} {T : Mw β} {b : β} {us : List Value} {f : FuncId} {ats : Array TypeId} (M : Me A w F1 p pre (us ++ todo) x k0 W) (S : Sl N ci i (some ⟨p, o, none⟩) n c k a) (hk : k = k0 + A.cntF x) (h1c : 1 < ci) (hd : ci < e0 ∧ e0 < e1 ∧ e1 < e2 ∧ e2 < e3 ∧ e3 < e4 ∧ e4 < e5 ∧ e5 < e6 ∧ e6 < e7 ∧ e7 < N) (hA : P.underlying tA = some (.slice eA)) (hkA : (P.info? eA).map (·.size) = some K) (hf0 : fldB P g0 j0 l0 = true) (hf1 : fldB P g1 j1 l1 = true) (ht : Sca P tx) (hi : i < n) {m0 : Nat} (hK : A.cd.k = m0) (hp : pre.length + m0 = o + i * K + l0 + l1)
    (hk1 : T.cd.k = 1) (hv : ∀ x, T.cntV x = T.cntF x) (hy : ∀ x k, T.byv x k → T.ful x k) (hf : Fn P f) (hC : MkF P T v1 f) (h1k : 1 ≤ k) (hkb : k + T.cntV b ≤ 4611686018427387904) (np : ¬ F p) (b1 : ∀ q, F1 q → F q) (b2 : ∀ q, F2 q → F q) (dj : ∀ q, F1 q → ¬ F2 q) (hown : T.own W F2 us b)
    (kc : ∀ a' V, Sl N ci i (some ⟨p, o, none⟩) n c (k0 + ((mTwo A T).cntF (x, b) : Nat)) a' → Me (mTwo A T) w F p pre todo (x, b) k0 V → Q .normal a' V) :
    Code.wp P (Code.region id #[⟨some e0, .move (.tmp 0), t0, s0, f0, none⟩, ⟨some e1, .move (.tmp ci), t1, s1, f1, none⟩, ⟨some e2, .indexAddr tA (.tmp e0) (.tmp e1), t2, s2, f2, none⟩, ⟨some e3, .fieldAddr g0 (.tmp e2) j0, t3, s3, f3, none⟩, ⟨some e4, .fieldAddr g1 (.tmp e3) j1, t4, s4, f4, none⟩, ⟨some e5, .load tx (.tmp e4), t5, s5, f5, none⟩, ⟨some e6, .move (.tmp 1), t6, s6, f6, none⟩, ⟨some e7, .call { callee := .value (.func f), args := #[.tmp e5, .tmp e6], argTypes := ats }, t7, s7, f7, none⟩, ⟨some 1, .assign (.tmp e7), t8, s8, f8, none⟩] false) Q a W := by
  have hz := S.sz
  obtain ⟨q0, q1, q2, q3, q4, q5, q6, q7, q8⟩ := hd
  refine wp_region_list ?_
  refine wpl_move ?_
  rw [S.s]
  refine wpl_move ?_
  rw [show Act.eval (a.put (some e0) (.slice (some ⟨p, o, none⟩) n c)) (.tmp ci) = .int .i64 i from ((put_ne (by omega)).trans (S.hi))]
  refine wpl_index hA hkA ((put_ne (by omega)).trans (put_eq (by omega))) (put_eq (by rw [put_sz]; omega)) hi ?_
  refine wpl_fieldo (put_eq (by rw [put_sz, put_sz]; omega)) hf0 ?_
  refine wpl_fieldo (put_eq (by rw [put_sz, put_sz, put_sz]; omega)) hf1 ?_
  obtain ⟨u, rfl⟩ : ∃ u, us = [u] := by
    have hn := (T.len hown).trans hk1
    cases us with
    | nil => cases hn
    | cons u t =>
      cases t with
      | nil => exact ⟨u, rfl⟩
      | cons _ _ => simp at hn
  have hcell : W.cell? ⟨p, o + i * K + l0 + l1, none⟩ = some u := by
    obtain ⟨done, x', h1, h2, _⟩ := M.ex
    rw [← List.append_assoc] at h2
    exact (Box.seg h2 (by rw [List.length_append, h1, hK]; exact hp)).one
  refine wpl_loadS rfl tx (.tmp e4) rfl (put_eq (by rw [put_sz, put_sz, put_sz, put_sz]; omega)) u ht hcell ?_
  refine wpl_move ?_
  rw [show Act.eval ((((((a.put (some e0) (.slice (some ⟨p, o, none⟩) n c)).put (some e1) (.int .i64 i)).put (some e2) (.pointer (some ⟨p, o + i * K, none⟩))).put (some e3) (.pointer (some ⟨p, o + i * K + l0, none⟩))).put (some e4) (.pointer (some ⟨p, o + i * K + l0 + l1, none⟩))).put (some e5) u) (.tmp 1) = .int .i64 k from ((put_ne (by omega)).trans ((put_ne (by omega)).trans ((put_ne (by omega)).trans ((put_ne (by omega)).trans ((put_ne (by omega)).trans ((put_ne (by omega)).trans (S.hk)))))))]
  have ea : Act.eval (((((((a.put (some e0) (.slice (some ⟨p, o, none⟩) n c)).put (some e1) (.int .i64 i)).put (some e2) (.pointer (some ⟨p, o + i * K, none⟩))).put (some e3) (.pointer (some ⟨p, o + i * K + l0, none⟩))).put (some e4) (.pointer (some ⟨p, o + i * K + l0 + l1, none⟩))).put (some e5) u).put (some e6) (.int .i64 k)) (.tmp e5) = u := ((put_ne (by omega)).trans (put_eq (by rw [put_sz, put_sz, put_sz, put_sz, put_sz]; omega)))
  have eb : Act.eval (((((((a.put (some e0) (.slice (some ⟨p, o, none⟩) n c)).put (some e1) (.int .i64 i)).put (some e2) (.pointer (some ⟨p, o + i * K, none⟩))).put (some e3) (.pointer (some ⟨p, o + i * K + l0, none⟩))).put (some e4) (.pointer (some ⟨p, o + i * K + l0 + l1, none⟩))).put (some e5) u).put (some e6) (.int .i64 k)) (.tmp e6) = .int .i64 k := (put_eq (by rw [put_sz, put_sz, put_sz, put_sz, put_sz, put_sz]; omega))
  refine wpl_call hf (R := fun e V => e = .returned (.int .i64 (k + T.cntV b)) ∧ Chg F2 W V ∧ ∃ b', T.own V F2 [u] b' ∧ T.byv b' k ∧ T.cntV b' = T.cntV b) ?_ ?_
  · have hc := hC [u] b W F2 k hown h1k hkb
    simpa only [List.map_toArray, List.map_cons, List.map_nil, ea, eb, v1, List.headD_cons] using hc
  rintro e V ⟨rfl, hchg, b', g1, g2, g3⟩
  refine ⟨_, rfl, ?_⟩
  refine wpl_assign (wpl_nil ?_)
  rw [show Act.eval ((((((((a.put (some e0) (.slice (some ⟨p, o, none⟩) n c)).put (some e1) (.int .i64 i)).put (some e2) (.pointer (some ⟨p, o + i * K, none⟩))).put (some e3) (.pointer (some ⟨p, o + i * K + l0, none⟩))).put (some e4) (.pointer (some ⟨p, o + i * K + l0 + l1, none⟩))).put (some e5) u).put (some e6) (.int .i64 k)).put (some e7) (.int .i64 (k + T.cntV b))) (.tmp e7) = .int .i64 (k + T.cntV b) from (put_eq (by rw [put_sz, put_sz, put_sz, put_sz, put_sz, put_sz, put_sz]; omega))]
  have S9 : Sl N ci i (some ⟨p, o, none⟩) n c k ((((((((a.put (some e0) (.slice (some ⟨p, o, none⟩) n c)).put (some e1) (.int .i64 i)).put (some e2) (.pointer (some ⟨p, o + i * K, none⟩))).put (some e3) (.pointer (some ⟨p, o + i * K + l0, none⟩))).put (some e4) (.pointer (some ⟨p, o + i * K + l0 + l1, none⟩))).put (some e5) u).put (some e6) (.int .i64 k)).put (some e7) (.int .i64 (k + T.cntV b))) := ⟨((put_ne (by omega)).trans ((put_ne (by omega)).trans ((put_ne (by omega)).trans ((put_ne (by omega)).trans ((put_ne (by omega)).trans ((put_ne (by omega)).trans ((put_ne (by omega)).trans ((put_ne (by omega)).trans (S.hi))))))))), ((put_ne (by omega)).trans ((put_ne (by omega)).trans ((put_ne (by omega)).trans ((put_ne (by omega)).trans ((put_ne (by omega)).trans ((put_ne (by omega)).trans ((put_ne (by omega)).trans ((put_ne (by omega)).trans (S.s))))))))), ((put_ne (by omega)).trans ((put_ne (by omega)).trans ((put_ne (by omega)).trans ((put_ne (by omega)).trans ((put_ne (by omega)).trans ((put_ne (by omega)).trans ((put_ne (by omega)).trans ((put_ne (by omega)).trans (S.hk))))))))), (put_df.trans (put_df.trans (put_df.trans (put_df.trans (put_df.trans (put_df.trans (put_df.trans (put_df.trans (S.df))))))))), (by rw [put_sz, put_sz, put_sz, put_sz, put_sz, put_sz, put_sz, put_sz]; exact S.sz)⟩
  refine kc _ V ?_ (M.part np b1 b2 dj g1 (hy b' _ (by rw [← hk]; exact g2)) (by rw [← hv, ← hv, g3]) hchg)
  have e2 : k0 + ((mTwo A T).cntF (x, b) : Nat) = k + T.cntV b := by
    show k0 + ((A.cntF x + T.cntF b : Nat) : Int) = _
    rw [hk, hv]
    omega
  rw [e2]
  exact S9.set h1c (by omega) _
theorem me_c3 {g0 : TypeId} {j0 l0 : Nat} {g1 : TypeId} {j1 l1 : Nat} {g2 : TypeId} {j2 l2 : Nat} {e0 e1 e2 e3 e4 e5 e6 e7 e8 : Nat} {k : Int} {β : Type} {T : Mw β} {b : β} {us : List Value} {f : FuncId} {ats : Array TypeId} (M : Me A w F1 p pre (us ++ todo) x k0 W) (S : Sl N ci i (some ⟨p, o, none⟩) n c k a) (hk : k = k0 + A.cntF x) (h1c : 1 < ci) (hd : ci < e0 ∧ e0 < e1 ∧ e1 < e2 ∧ e2 < e3 ∧ e3 < e4 ∧ e4 < e5 ∧ e5 < e6 ∧ e6 < e7 ∧ e7 < e8 ∧ e8 < N) (hA : P.underlying tA = some (.slice eA)) (hkA : (P.info? eA).map (·.size) = some K) (hf0 : fldB P g0 j0 l0 = true) (hf1 : fldB P g1 j1 l1 = true) (hf2 : fldB P g2 j2 l2 = true) (ht : Sca P tx) (hi : i < n) {m0 : Nat} (hK : A.cd.k = m0) (hp : pre.length + m0 = o + i * K + l0 + l1 + l2)
    (hk1 : T.cd.k = 1) (hv : ∀ x, T.cntV x = T.cntF x) (hy : ∀ x k, T.byv x k → T.ful x k) (hf : Fn P f) (hC : MkF P T v1 f) (h1k : 1 ≤ k) (hkb : k + T.cntV b ≤ 4611686018427387904) (np : ¬ F p) (b1 : ∀ q, F1 q → F q) (b2 : ∀ q, F2 q → F q) (dj : ∀ q, F1 q → ¬ F2 q) (hown : T.own W F2 us b)
    (kc : ∀ a' V, Sl N ci i (some ⟨p, o, none⟩) n c (k0 + ((mTwo A T).cntF (x, b) : Nat)) a' → Me (mTwo A T) w F p pre todo (x, b) k0 V → Q .normal a' V) :
    Code.wp P (Code.region id #[⟨some e0, .move (.tmp 0), t0, s0, f0, none⟩, ⟨some e1, .move (.tmp ci), t1, s1, f1, none⟩, ⟨some e2, .indexAddr tA (.tmp e0) (.tmp e1), t2, s2, f2, none⟩, ⟨some e3, .fieldAddr g0 (.tmp e2) j0, t3, s3, f3, none⟩, ⟨some e4, .fieldAddr g1 (.tmp e3) j1, t4, s4, f4, none⟩, ⟨some e5, .fieldAddr g2 (.tmp e4) j2, t5, s5, f5, none⟩, ⟨some e6, .load tx (.tmp e5), t6, s6, f6, none⟩, ⟨some e7, .move (.tmp 1), t7, s7, f7, none⟩, ⟨some e8, .call { callee := .value (.func f), args := #[.tmp e6, .tmp e7], argTypes := ats }, t8, s8, f8, none⟩, ⟨some 1, .assign (.tmp e8), t9, s9, f9, none⟩] false) Q a W := by
  have hz := S.sz
  obtain ⟨q0, q1, q2, q3, q4, q5, q6, q7, q8, q9⟩ := hd
  refine wp_region_list ?_
  refine wpl_move ?_
  rw [S.s]
  refine wpl_move ?_
  rw [show Act.eval (a.put (some e0) (.slice (some ⟨p, o, none⟩) n c)) (.tmp ci) = .int .i64 i from ((put_ne (by omega)).trans (S.hi))]
  refine wpl_index hA hkA ((put_ne (by omega)).trans (put_eq (by omega))) (put_eq (by rw [put_sz]; omega)) hi ?_
  refine wpl_fieldo (put_eq (by rw [put_sz, put_sz]; omega)) hf0 ?_
  refine wpl_fieldo (put_eq (by rw [put_sz, put_sz, put_sz]; omega)) hf1 ?_
  refine wpl_fieldo (put_eq (by rw [put_sz, put_sz, put_sz, put_sz]; omega)) hf2 ?_
  obtain ⟨u, rfl⟩ : ∃ u, us = [u] := by
    have hn := (T.len hown).trans hk1
    cases us with
    | nil => cases hn
    | cons u t =>
      cases t with
      | nil => exact ⟨u, rfl⟩
      | cons _ _ => simp at hn
  have hcell : W.cell? ⟨p, o + i * K + l0 + l1 + l2, none⟩ = some u := by
    obtain ⟨done, x', h1, h2, _⟩ := M.ex
    rw [← List.append_assoc] at h2
    exact (Box.seg h2 (by rw [List.length_append, h1, hK]; exact hp)).one
  refine wpl_loadS rfl tx (.tmp e5) rfl (put_eq (by rw [put_sz, put_sz, put_sz, put_sz, put_sz]; omega)) u ht hcell ?_
  refine wpl_move ?_
  rw [show Act.eval (((((((a.put (some e0) (.slice (some ⟨p, o, none⟩) n c)).put (some e1) (.int .i64 i)).put (some e2) (.pointer (some ⟨p, o + i * K, none⟩))).put (some e3) (.pointer (some ⟨p, o + i * K + l0, none⟩))).put (some e4) (.pointer (some ⟨p, o + i * K + l0 + l1, none⟩))).put (some e5) (.pointer (some ⟨p, o + i * K + l0 + l1 + l2, none⟩))).put (some e6) u) (.tmp 1) = .int .i64 k from ((put_ne (by omega)).trans ((put_ne (by omega)).trans ((put_ne (by omega)).trans ((put_ne (by omega)).trans ((put_ne (by omega)).trans ((put_ne (by omega)).trans ((put_ne (by omega)).trans (S.hk))))))))]
  have ea : Act.eval ((((((((a.put (some e0) (.slice (some ⟨p, o, none⟩) n c)).put (some e1) (.int .i64 i)).put (some e2) (.pointer (some ⟨p, o + i * K, none⟩))).put (some e3) (.pointer (some ⟨p, o + i * K + l0, none⟩))).put (some e4) (.pointer (some ⟨p, o + i * K + l0 + l1, none⟩))).put (some e5) (.pointer (some ⟨p, o + i * K + l0 + l1 + l2, none⟩))).put (some e6) u).put (some e7) (.int .i64 k)) (.tmp e6) = u := ((put_ne (by omega)).trans (put_eq (by rw [put_sz, put_sz, put_sz, put_sz, put_sz, put_sz]; omega)))
  have eb : Act.eval ((((((((a.put (some e0) (.slice (some ⟨p, o, none⟩) n c)).put (some e1) (.int .i64 i)).put (some e2) (.pointer (some ⟨p, o + i * K, none⟩))).put (some e3) (.pointer (some ⟨p, o + i * K + l0, none⟩))).put (some e4) (.pointer (some ⟨p, o + i * K + l0 + l1, none⟩))).put (some e5) (.pointer (some ⟨p, o + i * K + l0 + l1 + l2, none⟩))).put (some e6) u).put (some e7) (.int .i64 k)) (.tmp e7) = .int .i64 k := (put_eq (by rw [put_sz, put_sz, put_sz, put_sz, put_sz, put_sz, put_sz]; omega))
  refine wpl_call hf (R := fun e V => e = .returned (.int .i64 (k + T.cntV b)) ∧ Chg F2 W V ∧ ∃ b', T.own V F2 [u] b' ∧ T.byv b' k ∧ T.cntV b' = T.cntV b) ?_ ?_
  · have hc := hC [u] b W F2 k hown h1k hkb
    simpa only [List.map_toArray, List.map_cons, List.map_nil, ea, eb, v1, List.headD_cons] using hc
  rintro e V ⟨rfl, hchg, b', g1, g2, g3⟩
  refine ⟨_, rfl, ?_⟩
  refine wpl_assign (wpl_nil ?_)
  rw [show Act.eval (((((((((a.put (some e0) (.slice (some ⟨p, o, none⟩) n c)).put (some e1) (.int .i64 i)).put (some e2) (.pointer (some ⟨p, o + i * K, none⟩))).put (some e3) (.pointer (some ⟨p, o + i * K + l0, none⟩))).put (some e4) (.pointer (some ⟨p, o + i * K + l0 + l1, none⟩))).put (some e5) (.pointer (some ⟨p, o + i * K + l0 + l1 + l2, none⟩))).put (some e6) u).put (some e7) (.int .i64 k)).put (some e8) (.int .i64 (k + T.cntV b))) (.tmp e8) = .int .i64 (k + T.cntV b) from (put_eq (by rw [put_sz, put_sz, put_sz, put_sz, put_sz, put_sz, put_sz, put_sz]; omega))]
  have S9 : Sl N ci i (some ⟨p, o, none⟩) n c k (((((((((a.put (some e0) (.slice (some ⟨p, o, none⟩) n c)).put (some e1) (.int .i64 i)).put (some e2) (.pointer (some ⟨p, o + i * K, none⟩))).put (some e3) (.pointer (some ⟨p, o + i * K + l0, none⟩))).put (some e4) (.pointer (some ⟨p, o + i * K + l0 + l1, none⟩))).put (some e5) (.pointer (some ⟨p, o + i * K + l0 + l1 + l2, none⟩))).put (some e6) u).put (some e7) (.int .i64 k)).put (some e8) (.int .i64 (k + T.cntV b))) := ⟨((put_ne (by omega)).trans ((put_ne (by omega)).trans ((put_ne (by omega)).trans ((put_ne (by omega)).trans ((put_ne (by omega)).trans ((put_ne (by omega)).trans ((put_ne (by omega)).trans ((put_ne (by omega)).trans ((put_ne (by omega)).trans (S.hi)))))))))), ((put_ne (by omega)).trans ((put_ne (by omega)).trans ((put_ne (by omega)).trans ((put_ne (by omega)).trans ((put_ne (by omega)).trans ((put_ne (by omega)).trans ((put_ne (by omega)).trans ((put_ne (by omega)).trans ((put_ne (by omega)).trans (S.s)))))))))), ((put_ne (by omega)).trans ((put_ne (by omega)).trans ((put_ne (by omega)).trans ((put_ne (by omega)).trans ((put_ne (by omega)).trans ((put_ne (by omega)).trans ((put_ne (by omega)).trans ((put_ne (by omega)).trans ((put_ne (by omega)).trans (S.hk)))))))))), (put_df.trans (put_df.trans (put_df.trans (put_df.trans (put_df.trans (put_df.trans (put_df.trans (put_df.trans (put_df.trans (S.df)))))))))), (by rw [put_sz, put_sz, put_sz, put_sz, put_sz, put_sz, put_sz, put_sz, put_sz]; exact S.sz)⟩
  refine kc _ V ?_ (M.part np b1 b2 dj g1 (hy b' _ (by rw [← hk]; exact g2)) (by rw [← hv, ← hv, g3]) hchg)
  have e2 : k0 + ((mTwo A T).cntF (x, b) : Nat) = k + T.cntV b := by
    show k0 + ((A.cntF x + T.cntF b : Nat) : Int) = _
    rw [hk, hv]
    omega
  rw [e2]
  exact S9.set h1c (by omega) _
theorem me_c4 {g0 : TypeId} {j0 l0 : Nat} {g1 : TypeId} {j1 l1 : Nat} {g2 : TypeId} {j2 l2 : Nat} {g3 : TypeId} {j3 l3 : Nat} {e0 e1 e2 e3 e4 e5 e6 e7 e8 e9 : Nat} {k : Int} {β : Type} {T : Mw β} {b : β} {us : List Value} {f : FuncId} {ats : Array TypeId} (M : Me A w F1 p pre (us ++ todo) x k0 W) (S : Sl N ci i (some ⟨p, o, none⟩) n c k a) (hk : k = k0 + A.cntF x) (h1c : 1 < ci) (hd : ci < e0 ∧ e0 < e1 ∧ e1 < e2 ∧ e2 < e3 ∧ e3 < e4 ∧ e4 < e5 ∧ e5 < e6 ∧ e6 < e7 ∧ e7 < e8 ∧ e8 < e9 ∧ e9 < N) (hA : P.underlying tA = some (.slice eA)) (hkA : (P.info? eA).map (·.size) = some K) (hf0 : fldB P g0 j0 l0 = true) (hf1 : fldB P g1 j1 l1 = true) (hf2 : fldB P g2 j2 l2 = true) (hf3 : fldB P g3 j3 l3 = true) (ht : Sca P tx) (hi : i < n) {m0 : Nat} (hK : A.cd.k = m0) (hp : pre.length + m0 = o + i * K + l0 + l1 + l2 + l3)
    (hk1 : T.cd.k = 1) (hv : ∀ x, T.cntV x = T.cntF x) (hy : ∀ x k, T.byv x k → T.ful x k) (hf : Fn P f) (hC : MkF P T v1 f) (h1k : 1 ≤ k) (hkb : k + T.cntV b ≤ 4611686018427387904) (np : ¬ F p) (b1 : ∀ q, F1 q → F q) (b2 : ∀ q, F2 q → F q) (dj : ∀ q, F1 q → ¬ F2 q) (hown : T.own W F2 us b)
    (kc : ∀ a' V, Sl N ci i (some ⟨p, o, none⟩) n c (k0 + ((mTwo A T).cntF (x, b) : Nat)) a' → Me (mTwo A T) w F p pre todo (x, b) k0 V → Q .normal a' V) :
    Code.wp P (Code.region id #[⟨some e0, .move (.tmp 0), t0, s0, f0, none⟩, ⟨some e1, .move (.tmp ci), t1, s1, f1, none⟩, ⟨some e2, .indexAddr tA (.tmp e0) (.tmp e1), t2, s2, f2, none⟩, ⟨some e3, .fieldAddr g0 (.tmp e2) j0, t3, s3, f3, none⟩, ⟨some e4, .fieldAddr g1 (.tmp e3) j1, t4, s4, f4, none⟩, ⟨some e5, .fieldAddr g2 (.tmp e4) j2, t5, s5, f5, none⟩, ⟨some e6, .fieldAddr g3 (.tmp e5) j3, t6, s6, f6, none⟩, ⟨some e7, .load tx (.tmp e6), t7, s7, f7, none⟩, ⟨some e8, .move (.tmp 1), t8, s8, f8, none⟩, ⟨some e9, .call { callee := .value (.func f), args := #[.tmp e7, .tmp e8], argTypes := ats }, t9, s9, f9, none⟩, ⟨some 1, .assign (.tmp e9), t10, s10, f10, none⟩] false) Q a W := by
  have hz := S.sz
  obtain ⟨q0, q1, q2, q3, q4, q5, q6, q7, q8, q9, q10⟩ := hd
  refine wp_region_list ?_
  refine wpl_move ?_
  rw [S.s]
  refine wpl_move ?_
  rw [show Act.eval (a.put (some e0) (.slice (some ⟨p, o, none⟩) n c)) (.tmp ci) = .int .i64 i from ((put_ne (by omega)).trans (S.hi))]
  refine wpl_index hA hkA ((put_ne (by omega)).trans (put_eq (by omega))) (put_eq (by rw [put_sz]; omega)) hi ?_
  refine wpl_fieldo (put_eq (by rw [put_sz, put_sz]; omega)) hf0 ?_
  refine wpl_fieldo (put_eq (by rw [put_sz, put_sz, put_sz]; omega)) hf1 ?_
  refine wpl_fieldo (put_eq (by rw [put_sz, put_sz, put_sz, put_sz]; omega)) hf2 ?_
  refine wpl_fieldo (put_eq (by rw [put_sz, put_sz, put_sz, put_sz, put_sz]; omega)) hf3 ?_
  obtain ⟨u, rfl⟩ : ∃ u, us = [u] := by
    have hn := (T.len hown).trans hk1
    cases us with
    | nil => cases hn
    | cons u t =>
      cases t with
      | nil => exact ⟨u, rfl⟩
      | cons _ _ => simp at hn
  have hcell : W.cell? ⟨p, o + i * K + l0 + l1 + l2 + l3, none⟩ = some u := by
    obtain ⟨done, x', h1, h2, _⟩ := M.ex
    rw [← List.append_assoc] at h2
    exact (Box.seg h2 (by rw [List.length_append, h1, hK]; exact hp)).one
  refine wpl_loadS rfl tx (.tmp e6) rfl (put_eq (by rw [put_sz, put_sz, put_sz, put_sz, put_sz, put_sz]; omega)) u ht hcell ?_
  refine wpl_move ?_
  rw [show Act.eval ((((((((a.put (some e0) (.slice (some ⟨p, o, none⟩) n c)).put (some e1) (.int .i64 i)).put (some e2) (.pointer (some ⟨p, o + i * K, none⟩))).put (some e3) (.pointer (some ⟨p, o + i * K + l0, none⟩))).put (some e4) (.pointer (some ⟨p, o + i * K + l0 + l1, none⟩))).put (some e5) (.pointer (some ⟨p, o + i * K + l0 + l1 + l2, none⟩))).put (some e6) (.pointer (some ⟨p, o + i * K + l0 + l1 + l2 + l3, none⟩))).put (some e7) u) (.tmp 1) = .int .i64 k from ((put_ne (by omega)).trans ((put_ne (by omega)).trans ((put_ne (by omega)).trans ((put_ne (by omega)).trans ((put_ne (by omega)).trans ((put_ne (by omega)).trans ((put_ne (by omega)).trans ((put_ne (by omega)).trans (S.hk)))))))))]
  have ea : Act.eval (((((((((a.put (some e0) (.slice (some ⟨p, o, none⟩) n c)).put (some e1) (.int .i64 i)).put (some e2) (.pointer (some ⟨p, o + i * K, none⟩))).put (some e3) (.pointer (some ⟨p, o + i * K + l0, none⟩))).put (some e4) (.pointer (some ⟨p, o + i * K + l0 + l1, none⟩))).put (some e5) (.pointer (some ⟨p, o + i * K + l0 + l1 + l2, none⟩))).put (some e6) (.pointer (some ⟨p, o + i * K + l0 + l1 + l2 + l3, none⟩))).put (some e7) u).put (some e8) (.int .i64 k)) (.tmp e7) = u := ((put_ne (by omega)).trans (put_eq (by rw [put_sz, put_sz, put_sz, put_sz, put_sz, put_sz, put_sz]; omega)))
  have eb : Act.eval (((((((((a.put (some e0) (.slice (some ⟨p, o, none⟩) n c)).put (some e1) (.int .i64 i)).put (some e2) (.pointer (some ⟨p, o + i * K, none⟩))).put (some e3) (.pointer (some ⟨p, o + i * K + l0, none⟩))).put (some e4) (.pointer (some ⟨p, o + i * K + l0 + l1, none⟩))).put (some e5) (.pointer (some ⟨p, o + i * K + l0 + l1 + l2, none⟩))).put (some e6) (.pointer (some ⟨p, o + i * K + l0 + l1 + l2 + l3, none⟩))).put (some e7) u).put (some e8) (.int .i64 k)) (.tmp e8) = .int .i64 k := (put_eq (by rw [put_sz, put_sz, put_sz, put_sz, put_sz, put_sz, put_sz, put_sz]; omega))
  refine wpl_call hf (R := fun e V => e = .returned (.int .i64 (k + T.cntV b)) ∧ Chg F2 W V ∧ ∃ b', T.own V F2 [u] b' ∧ T.byv b' k ∧ T.cntV b' = T.cntV b) ?_ ?_
  · have hc := hC [u] b W F2 k hown h1k hkb
    simpa only [List.map_toArray, List.map_cons, List.map_nil, ea, eb, v1, List.headD_cons] using hc
  rintro e V ⟨rfl, hchg, b', g1, g2, g3⟩
  refine ⟨_, rfl, ?_⟩
  refine wpl_assign (wpl_nil ?_)
  rw [show Act.eval ((((((((((a.put (some e0) (.slice (some ⟨p, o, none⟩) n c)).put (some e1) (.int .i64 i)).put (some e2) (.pointer (some ⟨p, o + i * K, none⟩))).put (some e3) (.pointer (some ⟨p, o + i * K + l0, none⟩))).put (some e4) (.pointer (some ⟨p, o + i * K + l0 + l1, none⟩))).put (some e5) (.pointer (some ⟨p, o + i * K + l0 + l1 + l2, none⟩))).put (some e6) (.pointer (some ⟨p, o + i * K + l0 + l1 + l2 + l3, none⟩))).put (some e7) u).put (some e8) (.int .i64 k)).put (some e9) (.int .i64 (k + T.cntV b))) (.tmp e9) = .int .i64 (k + T.cntV b) from (put_eq (by rw [put_sz, put_sz, put_sz, put_sz, put_sz, put_sz, put_sz, put_sz, put_sz]; omega))]
  have S9 : Sl N ci i (some ⟨p, o, none⟩) n c k ((((((((((a.put (some e0) (.slice (some ⟨p, o, none⟩) n c)).put (some e1) (.int .i64 i)).put (some e2) (.pointer (some ⟨p, o + i * K, none⟩))).put (some e3) (.pointer (some ⟨p, o + i * K + l0, none⟩))).put (some e4) (.pointer (some ⟨p, o + i * K + l0 + l1, none⟩))).put (some e5) (.pointer (some ⟨p, o + i * K + l0 + l1 + l2, none⟩))).put (some e6) (.pointer (some ⟨p, o + i * K + l0 + l1 + l2 + l3, none⟩))).put (some e7) u).put (some e8) (.int .i64 k)).put (some e9) (.int .i64 (k + T.cntV b))) := ⟨((put_ne (by omega)).trans ((put_ne (by omega)).trans ((put_ne (by omega)).trans ((put_ne (by omega)).trans ((put_ne (by omega)).trans ((put_ne (by omega)).trans ((put_ne (by omega)).trans ((put_ne (by omega)).trans ((put_ne (by omega)).trans ((put_ne (by omega)).trans (S.hi))))))))))), ((put_ne (by omega)).trans ((put_ne (by omega)).trans ((put_ne (by omega)).trans ((put_ne (by omega)).trans ((put_ne (by omega)).trans ((put_ne (by omega)).trans ((put_ne (by omega)).trans ((put_ne (by omega)).trans ((put_ne (by omega)).trans ((put_ne (by omega)).trans (S.s))))))))))), ((put_ne (by omega)).trans ((put_ne (by omega)).trans ((put_ne (by omega)).trans ((put_ne (by omega)).trans ((put_ne (by omega)).trans ((put_ne (by omega)).trans ((put_ne (by omega)).trans ((put_ne (by omega)).trans ((put_ne (by omega)).trans ((put_ne (by omega)).trans (S.hk))))))))))), (put_df.trans (put_df.trans (put_df.trans (put_df.trans (put_df.trans (put_df.trans (put_df.trans (put_df.trans (put_df.trans (put_df.trans (S.df))))))))))), (by rw [put_sz, put_sz, put_sz, put_sz, put_sz, put_sz, put_sz, put_sz, put_sz, put_sz]; exact S.sz)⟩
  refine kc _ V ?_ (M.part np b1 b2 dj g1 (hy b' _ (by rw [← hk]; exact g2)) (by rw [← hv, ← hv, g3]) hchg)
  have e2 : k0 + ((mTwo A T).cntF (x, b) : Nat) = k + T.cntV b := by
    show k0 + ((A.cntF x + T.cntF b : Nat) : Int) = _
    rw [hk, hv]
    omega
  rw [e2]
  exact S9.set h1c (by omega) _
/-- What holds at the head of a round over an array. -/
structure AvI (cj N : Nat) (X : Nat → Act → Prop) (D : Nat → World → Prop) (j h : Nat) (a : Act) (W : World) : Prop where
  hi : a.eval (.tmp cj) = .int .i64 j
  df : a.defers = []
  sz : a.tmps.size = N
  x : X h a
  d : D h W
theorem arx_loop {m cj N : Nat} {X : Nat → Act → Prop} {D : Nat → World → Prop} {body : Code} {r2 r3 r4 b0 b1 : Nat} {ti tj tk tm : TypeId} (hX : ∀ i a t v, X i a → cj < t → X i (a.put (some t) v)) (hXc : ∀ i a v, X i a → X i (a.put (some cj) v)) {t8' t11' t12' t13' : Nat} (hd : cj < t8' ∧ t8' < t11' ∧ t11' < t12' ∧ t12' < t13' ∧ t13' < N)
    (hn : m < 9223372036854775807) (h0 : X 0 a) (hD : D 0 W) (hdf : a.defers = []) (hsz : a.tmps.size = N)
    (hb : ∀ j a W, j < m → AvI cj N X D j j a W → ∀ Q' : Exit → Act → World → Prop, (∀ a' W', AvI cj N X D j (j + 1) a' W' → Q' .normal a' W') → body.wp P Q' a W)
    (k : ∀ a W, AvI cj N X D m m a W → Q .normal a W) :
    Code.wp P ((Code.region r2 #[⟨some cj, .assign (.const (.int .i64 0)), t0, s0, f0, none⟩] false).seq (Code.block b0 (Code.loop
      (((Code.region r3 #[⟨some t8', .move (.tmp cj), t1, s1, f1, none⟩, ⟨some t11', .binOp .lss ti (.tmp t8') (.const (.int .i64 m)) tj, t4, s4, f4, none⟩] false).seq (Code.cond (.tmp t11') Code.skip (Code.exit b0))).seq
        ((Code.block b1 body).seq (Code.region r4 #[⟨some t12', .move (.tmp cj), t5, s5, f5, none⟩, ⟨some t13', .binOp .add tk (.tmp t12') (.const (.int .i64 1)) tm, t6, s6, f6, none⟩, ⟨some cj, .assign (.tmp t13'), t7, s7, f7, none⟩] false)))))) Q a W := by
  obtain ⟨k0, k1, k4, k5, k6⟩ := hd
  refine wp_seq (wp_region_list (wpl_assign (wpl_nil (wp_block ?_))))
  refine wp_loop (fun a W => ∃ i, i ≤ m ∧ AvI cj N X D i i a W) (fun a _ => m - (match a.eval (.tmp cj) with | .int _ z => z.toNat | _ => 0)) ⟨0, Nat.zero_le _, put_eq (by omega), put_df.trans hdf, put_sz.trans hsz, hXc _ _ _ h0, hD⟩ ?_
  rintro a W ⟨i, hin, h⟩
  have hz := h.sz
  refine wp_seq (wp_seq (wp_region_list ?_))
  refine wpl_move ?_
  rw [h.hi]
  refine wpl_bin (u := .int .i64 i) (v := .int .i64 m) (put_eq (by omega)) rfl (run_lss W) (wpl_nil ?_)
  have g4 : AvI cj N X D i i ((a.put (some t8') (.int .i64 i)).put (some t11') (.bool (decide ((i : Int) < (m : Int))))) W := ⟨(put_ne (by omega)).trans ((put_ne (by omega)).trans h.hi), put_df.trans (put_df.trans h.df), put_sz.trans (put_sz.trans hz), hX _ _ _ _ (hX _ _ _ _ h.x (by omega)) (by omega), h.d⟩
  by_cases hlt : i < m
  · rw [decide_eq_true (by omega : (i : Int) < (m : Int))] at g4 ⊢
    refine wp_cond_true (put_eq (by rw [put_sz]; omega)) (wp_skip ?_)
    refine wp_seq (wp_block ?_)
    refine hb i _ W hlt g4 _ ?_
    intro a' W' g
    have mz := g.sz
    refine wp_region_list ?_
    refine wpl_move ?_
    rw [g.hi]
    refine wpl_bin (u := .int .i64 i) (v := .int .i64 1) (put_eq (by omega)) rfl (run_inc W' (by omega) (by omega)) ?_
    refine wpl_assign (wpl_nil ?_)
    rw [put_eq (by rw [put_sz]; omega)]
    refine ⟨⟨i + 1, hlt, ⟨put_eq (by rw [put_sz, put_sz]; omega), put_df.trans (put_df.trans (put_df.trans g.df)), put_sz.trans (put_sz.trans (put_sz.trans mz)), hXc _ _ _ (hX _ _ _ _ (hX _ _ _ _ g.x (by omega)) (by omega)), g.d⟩⟩, ?_⟩
    have e1 : (((a'.put (some t12') (.int .i64 i)).put (some t13') (.int .i64 ((i : Int) + 1))).put (some cj) (.int .i64 ((i : Int) + 1))).eval (.tmp cj) = .int .i64 ((i : Int) + 1) := put_eq (by rw [put_sz, put_sz]; omega)
    simp only [e1]
    show m - ((i : Int) + 1).toNat < m - (i : Int).toNat
    omega
  · have he : i = m := by omega
    subst he
    rw [decide_eq_false (by omega : ¬ (i : Int) < (i : Int))] at g4 ⊢
    refine wp_cond_false (put_eq (by rw [put_sz]; omega)) (wp_exit ?_)
    simp only [Exit.then, Exit.inBlock, if_true]
    exact k _ W g4
theorem wpl_indexAo {ops : Array Oper} {rest : List Oper} {d : Option Tmp} {ty : TypeId} {ps : String} {af : Array Edge} {x z : Operand} {t e : TypeId} {p o n i : Nat} (ht : P.underlying t = some (.array n e)) (hk : (P.info? e).map (·.size) = some 1) (hx : a.eval x = .pointer (some ⟨p, o, none⟩)) (hz : a.eval z = .int .i64 i) (hi : i < n)
    (h : wpList P ops Q rest (a.put d (.pointer (some ⟨p, o + i, none⟩))) W) : wpList P ops Q (⟨d, .indexAddr t x z, ty, ps, af, none⟩ :: rest) a W := by
  refine wpl_val (v := .pointer (some ⟨p, o + i, none⟩)) (w' := W) ?_ h
  cases hq : P.info? e with
  | none => simp [hq] at hk
  | some j =>
    have hz' : j.size = 1 := by simpa [hq] using hk
    simp [execOp, Instr.indexAt, asIntOf, Sem.run_bind, run_underlying ht, hx, hz, Instr.sureAddr, sizeOf, typeInfo, hq, hz', add_E, hi]
/-- The marks of an array. -/
def mkA (k : Int) (j : Nat) : List Value := (List.range j).map (fun (i : Nat) => Value.int .i64 (k + (i : Int)))
theorem mkA_len {k : Int} {j : Nat} : (mkA k j).length = j := by simp [mkA]
theorem mkA_next {k : Int} {j : Nat} : mkA k (j + 1) = mkA k j ++ [.int .i64 (k + j)] := by simp [mkA, List.range_succ]
theorem me_a0 {u0 u1 u2 u3 u4 u5 u6 u7 u8 : TypeId} {v0 v1' v2 v3 v4 v5 v6 v7 v8 : String} {w0 w1 w2 w3 w4 w5 w6 w7 w8 : Array Edge} {ti tj tk tm tk' tm' tR eR : TypeId} {r2 r3 r4 bq0 bq1 id' cj a0 a1 b0 b1 i0 i1 m e0 e1 e2 e3 e4 e5 : Nat} {k : Int} {us : List Value} (M : Me A w F p pre (us ++ todo) x k0 W) (S : Sl N ci i (some ⟨p, o, none⟩) n c k a) (hk : k = k0 + A.cntF x) (h1c : 1 < ci) (hd : ci < cj ∧ cj < a0 ∧ a0 < a1 ∧ a1 < b0 ∧ b0 < b1 ∧ b1 < e0 ∧ e0 < e1 ∧ e1 < e2 ∧ e2 < e3 ∧ e3 < e4 ∧ e4 < e5 ∧ e5 < i0 ∧ i0 < i1 ∧ i1 < N) (hA : P.underlying tA = some (.slice eA)) (hkA : (P.info? eA).map (·.size) = some K) (hR : P.underlying tR = some (.array m eR)) (hkR : (P.info? eR).map (·.size) = some 1) (ht : (P.info? tx).map (·.size) = some 1) (hm0 : m < 1000000) (hk0 : 0 ≤ k) (hk1 : k ≤ 4611686018427387904) (hi : i < n) (np : ¬ F p) (b : List Int) (hum : us.length = m) {m0 : Nat} (hK : A.cd.k = m0) (hp : pre.length + m0 = o + i * K)
    (kc : ∀ a' V, Sl N ci i (some ⟨p, o, none⟩) n c (k0 + ((mTwo A (mArr m)).cntF (x, b) : Nat)) a' → Me (mTwo A (mArr m)) w F p pre todo (x, b) k0 V → Q .normal a' V) :
    Code.wp P ((Code.region r2 #[⟨some cj, .assign (.const (.int .i64 0)), u3, v3, w3, none⟩] false).seq (Code.block bq0 (Code.loop
      (((Code.region r3 #[⟨some a0, .move (.tmp cj), u4, v4, w4, none⟩, ⟨some a1, .binOp .lss ti (.tmp a0) (.const (.int .i64 m)) tj, u5, v5, w5, none⟩] false).seq (Code.cond (.tmp a1) Code.skip (Code.exit bq0))).seq
        ((Code.block bq1 ((Code.region id #[⟨some e0, .move (.tmp 0), t0, s0, f0, none⟩, ⟨some e1, .move (.tmp ci), t1, s1, f1, none⟩, ⟨some e2, .move (.tmp cj), t2, s2, f2, none⟩, ⟨some e3, .move (.tmp 1), t3, s3, f3, none⟩, ⟨some e4, .indexAddr tA (.tmp e0) (.tmp e1), t4, s4, f4, none⟩, ⟨some e5, .indexAddr tR (.tmp e4) (.tmp e2), t5, s5, f5, none⟩, ⟨none, .store tx (.tmp e5) (.tmp e3), t6, s6, f6, none⟩] false).seq (Code.region id' #[⟨some i0, .move (.tmp 1), u0, v0, w0, none⟩, ⟨some i1, .binOp .add tk' (.tmp i0) (.const (.int .i64 1)) tm', u1, v1', w1, none⟩, ⟨some 1, .assign (.tmp i1), u2, v2, w2, none⟩] false))).seq (Code.region r4 #[⟨some b0, .move (.tmp cj), u6, v6, w6, none⟩, ⟨some b1, .binOp .add tk (.tmp b0) (.const (.int .i64 1)) tm, u7, v7, w7, none⟩, ⟨some cj, .assign (.tmp b1), u8, v8, w8, none⟩] false)))))) Q a W := by
  have hz := S.sz
  obtain ⟨q0, q1, q2, q3, q4, q5, q6, q7, q8, q9, q10, q11, q12, q13⟩ := hd
  obtain ⟨done, x', h1, h2, h3, h4, h5⟩ := M.ex
  refine arx_loop (m := m) (cj := cj) (N := N) (X := fun j a => Sl N ci i (some ⟨p, o, none⟩) n c (k + (j : Nat)) a) (D := fun j V => Box V p (pre ++ done ++ (mkA k j ++ us.drop j ++ todo)) ∧ Chg (fun q => q = p) W V) (fun i a t v h ht => h.put h1c (by omega) v) (fun i a v h => h.put h1c q0 v) ⟨q1, q2, q3, q4, by omega⟩ (by omega) (by rw [show k + ((0 : Nat) : Int) = k by omega]; exact S) ⟨by simpa [mkA, List.append_assoc] using h2, Chg.refl _ _⟩ S.df hz ?_ ?_
  · intro j a W' hj G Q' kq
    have S := G.x
    have hz := G.sz
    refine wp_seq (wp_region_list ?_)
    refine wpl_move ?_
    rw [S.s]
    refine wpl_move ?_
    rw [show Act.eval (a.put (some e0) (.slice (some ⟨p, o, none⟩) n c)) (.tmp ci) = .int .i64 i from ((put_ne (by omega)).trans (S.hi))]
    refine wpl_move ?_
    rw [show Act.eval ((a.put (some e0) (.slice (some ⟨p, o, none⟩) n c)).put (some e1) (.int .i64 i)) (.tmp cj) = .int .i64 j from ((put_ne (by omega)).trans ((put_ne (by omega)).trans (G.hi)))]
    refine wpl_move ?_
    rw [show Act.eval (((a.put (some e0) (.slice (some ⟨p, o, none⟩) n c)).put (some e1) (.int .i64 i)).put (some e2) (.int .i64 j)) (.tmp 1) = .int .i64 (k + j) from ((put_ne (by omega)).trans ((put_ne (by omega)).trans ((put_ne (by omega)).trans (S.hk))))]
    refine wpl_index hA hkA ((put_ne (by omega)).trans ((put_ne (by omega)).trans ((put_ne (by omega)).trans (put_eq (by omega))))) ((put_ne (by omega)).trans ((put_ne (by omega)).trans (put_eq (by rw [put_sz]; omega)))) hi ?_
    refine wpl_indexAo hR hkR (put_eq (by rw [put_sz, put_sz, put_sz, put_sz]; omega)) ((put_ne (by omega)).trans ((put_ne (by omega)).trans (put_eq (by rw [put_sz, put_sz]; omega)))) hj ?_
    have hB := G.d.1
    have hul : us.length = m := hum
    rw [List.drop_eq_getElem_cons (by omega : j < us.length), show (pre ++ done ++ (mkA k j ++ us[j] :: us.drop (j + 1) ++ todo)) = (pre ++ done ++ mkA k j) ++ ([us[j]] ++ (us.drop (j + 1) ++ todo)) by simp only [List.append_assoc, List.cons_append, List.nil_append]] at hB
    refine wpl_store rfl tx (.tmp e5) (.tmp e3) rfl (put_eq (by rw [put_sz, put_sz, put_sz, put_sz, put_sz]; omega)) ((put_ne (by omega)).trans ((put_ne (by omega)).trans (put_eq (by rw [put_sz, put_sz, put_sz]; omega)))) [.int .i64 (k + j)] (pre ++ done ++ mkA k j) [us[j]] (us.drop (j + 1) ++ todo) rfl (one1 rfl) ht rfl hB (by rw [List.length_append, List.length_append, h1, mkA_len, hK, hp]) rfl ?_
    intro V hV hg _
    have S9 : Sl N ci i (some ⟨p, o, none⟩) n c (k + j) ((((((a.put (some e0) (.slice (some ⟨p, o, none⟩) n c)).put (some e1) (.int .i64 i)).put (some e2) (.int .i64 j)).put (some e3) (.int .i64 (k + j))).put (some e4) (.pointer (some ⟨p, o + i * K, none⟩))).put (some e5) (.pointer (some ⟨p, o + i * K + j, none⟩))) := ⟨((put_ne (by omega)).trans ((put_ne (by omega)).trans ((put_ne (by omega)).trans ((put_ne (by omega)).trans ((put_ne (by omega)).trans ((put_ne (by omega)).trans (S.hi))))))), ((put_ne (by omega)).trans ((put_ne (by omega)).trans ((put_ne (by omega)).trans ((put_ne (by omega)).trans ((put_ne (by omega)).trans ((put_ne (by omega)).trans (S.s))))))), ((put_ne (by omega)).trans ((put_ne (by omega)).trans ((put_ne (by omega)).trans ((put_ne (by omega)).trans ((put_ne (by omega)).trans ((put_ne (by omega)).trans (S.hk))))))), (put_df.trans (put_df.trans (put_df.trans (put_df.trans (put_df.trans (put_df.trans (S.df))))))), (by rw [put_sz, put_sz, put_sz, put_sz, put_sz, put_sz]; exact S.sz)⟩
    have J9 : Act.eval ((((((a.put (some e0) (.slice (some ⟨p, o, none⟩) n c)).put (some e1) (.int .i64 i)).put (some e2) (.int .i64 j)).put (some e3) (.int .i64 (k + j))).put (some e4) (.pointer (some ⟨p, o + i * K, none⟩))).put (some e5) (.pointer (some ⟨p, o + i * K + j, none⟩))) (.tmp cj) = .int .i64 j := ((put_ne (by omega)).trans ((put_ne (by omega)).trans ((put_ne (by omega)).trans ((put_ne (by omega)).trans ((put_ne (by omega)).trans ((put_ne (by omega)).trans (G.hi)))))))
    rw [put_none]
    refine wpl_nil ?_
    refine me_inc S9 h1c (by omega) (by omega) (by omega) (k' := k + ((j + 1 : Nat) : Int)) (by omega) ?_
    intro a' S' hj'
    refine kq a' V ⟨(hj' cj (by omega) (by omega)).trans J9, S'.df, S'.sz, S', ?_, G.d.2.trans (Chg.row hg)⟩
    rw [mkA_next]
    simpa only [List.append_assoc, List.cons_append, List.nil_append] using hV
  · intro a V G
    have S := G.x
    have hB := G.d.1
    rw [List.drop_of_length_le (by omega), List.append_nil, List.append_assoc] at hB
    have e2 : k0 + ((mTwo A (mArr m)).cntF (x, b) : Nat) = k + (m : Nat) := by
      show k0 + ((A.cntF x + m : Nat) : Int) = _
      omega
    refine kc a V (by rw [e2]; exact S) ?_
    refine Me.cell (T := mArr m) (b := b) (b' := (List.range m).map (fun (i : Nat) => k + (i : Int))) (vs' := mkA k m) h1 h3 h4 h5 M.chg np (fun _ => ⟨by simp [mkA], by simp⟩) mkA_len.symm ?_ rfl G.d.2 hB
    intro j y hy
    simp only [List.getElem?_map, Option.map_eq_some_iff] at hy
    obtain ⟨q, hq, rfl⟩ := hy
    obtain ⟨hq, e⟩ := List.getElem?_eq_some_iff.1 hq
    rw [List.getElem_range] at e
    omega
theorem me_a2 {g0 : TypeId} {j0 l0 : Nat} {g1 : TypeId} {j1 l1 : Nat} {u0 u1 u2 u3 u4 u5 u6 u7 u8 : TypeId} {v0 v1' v2 v3 v4 v5 v6 v7 v8 : String} {w0 w1 w2 w3 w4 w5 w6 w7 w8 : Array Edge} {ti tj tk tm tk' tm' tR eR : TypeId} {r2 r3 r4 bq0 bq1 id' cj a0 a1 b0 b1 i0 i1 m e0 e1 e2 e3 e4 e5 e6 e7 : Nat} {k : Int} {us : List Value} (M : Me A w F p pre (us ++ todo) x k0 W) (S : Sl N ci i (some ⟨p, o, none⟩) n c k a) (hk : k = k0 + A.cntF x) (h1c : 1 < ci) (hd : ci < cj ∧ cj < a0 ∧ a0 < a1 ∧ a1 < b0 ∧ b0 < b1 ∧ b1 < e0 ∧ e0 < e1 ∧ e1 < e2 ∧ e2 < e3 ∧ e3 < e4 ∧ e4 < e5 ∧ e5 < e6 ∧ e6 < e7 ∧ e7 < i0 ∧ i0 < i1 ∧ i1 < N) (hA : P.underlying tA = some (.slice eA)) (hkA : (P.info? eA).map (·.size) = some K) (hf0 : fldB P g0 j0 l0 = true) (hf1 : fldB P g1 j1 l1 = true) (hR : P.underlying tR = some (.array m eR)) (hkR : (P.info? eR).map (·.size) = some 1) (ht : (P.info? tx).map (·.size) = some 1) (hm0 : m < 1000000) (hk0 : 0 ≤ k) (hk1 : k ≤ 4611686018427387904) (hi : i < n) (np : ¬ F p) (b : List Int) (hum : us.length = m) {m0 : Nat} (hK : A.cd.k = m0) (hp : pre.length + m0 = o + i * K + l0 + l1)
    (kc : ∀ a' V, Sl N ci i (some ⟨p, o, none⟩) n c (k0 + ((mTwo A (mArr m)).cntF (x, b) : Nat)) a' → Me (mTwo A (mArr m)) w F p pre todo (x, b) k0 V → Q .normal a' V) :
    Code.wp P ((Code.region r2 #[⟨some cj, .assign (.const (.int .i64 0)), u3, v3, w3, none⟩] false).seq (Code.block bq0 (Code.loop
      (((Code.region r3 #[⟨some a0, .move (.tmp cj), u4, v4, w4, none⟩, ⟨some a1, .binOp .lss ti (.tmp a0) (.const (.int .i64 m)) tj, u5, v5, w5, none⟩] false).seq (Code.cond (.tmp a1) Code.skip (Code.exit bq0))).seq
        ((Code.block bq1 ((Code.region id #[⟨some e0, .move (.tmp 0), t0, s0, f0, none⟩, ⟨some e1, .move (.tmp ci), t1, s1, f1, none⟩, ⟨some e2, .move (.tmp cj), t2, s2, f2, none⟩, ⟨some e3, .move (.tmp 1), t3, s3, f3, none⟩, ⟨some e4, .indexAddr tA (.tmp e0) (.tmp e1), t4, s4, f4, none⟩, ⟨some e5, .fieldAddr g0 (.tmp e4) j0, t5, s5, f5, none⟩, ⟨some e6, .fieldAddr g1 (.tmp e5) j1, t6, s6, f6, none⟩, ⟨some e7, .indexAddr tR (.tmp e6) (.tmp e2), t7, s7, f7, none⟩, ⟨none, .store tx (.tmp e7) (.tmp e3), t8, s8, f8, none⟩] false).seq (Code.region id' #[⟨some i0, .move (.tmp 1), u0, v0, w0, none⟩, ⟨some i1, .binOp .add tk' (.tmp i0) (.const (.int .i64 1)) tm', u1, v1', w1, none⟩, ⟨some 1, .assign (.tmp i1), u2, v2, w2, none⟩] false))).seq (Code.region r4 #[⟨some b0, .move (.tmp cj), u6, v6, w6, none⟩, ⟨some b1, .binOp .add tk (.tmp b0) (.const (.int .i64 1)) tm, u7, v7, w7, none⟩, ⟨some cj, .assign (.tmp b1), u8, v8, w8, none⟩] false)))))) Q a W := by
  have hz := S.sz
  obtain ⟨q0, q1, q2, q3, q4, q5, q6, q7, q8, q9, q10, q11, q12, q13, q14, q15⟩ := hd
  obtain ⟨done, x', h1, h2, h3, h4, h5⟩ := M.ex
  refine arx_loop (m := m) (cj := cj) (N := N) (X := fun j a => Sl N ci i (some ⟨p, o, none⟩) n c (k + (j : Nat)) a) (D := fun j V => Box V p (pre ++ done ++ (mkA k j ++ us.drop j ++ todo)) ∧ Chg (fun q => q = p) W V) (fun i a t v h ht => h.put h1c (by omega) v) (fun i a v h => h.put h1c q0 v) ⟨q1, q2, q3, q4, by omega⟩ (by omega) (by rw [show k + ((0 : Nat) : Int) = k by omega]; exact S) ⟨by simpa [mkA, List.append_assoc] using h2, Chg.refl _ _⟩ S.df hz ?_ ?_
  · intro j a W' hj G Q' kq
    have S := G.x
    have hz := G.sz
    refine wp_seq (wp_region_list ?_)
    refine wpl_move ?_
    rw [S.s]
    refine wpl_move ?_
    rw [show Act.eval (a.put (some e0) (.slice (some ⟨p, o, none⟩) n c)) (.tmp ci) = .int .i64 i from ((put_ne (by omega)).trans (S.hi))]
    refine wpl_move ?_
    rw [show Act.eval ((a.put (some e0) (.slice (some ⟨p, o, none⟩) n c)).put (some e1) (.int .i64 i)) (.tmp cj) = .int .i64 j from ((put_ne (by omega)).trans ((put_ne (by omega)).trans (G.hi)))]
    refine wpl_move ?_
    rw [show Act.eval (((a.put (some e0) (.slice (some ⟨p, o, none⟩) n c)).put (some e1) (.int .i64 i)).put (some e2) (.int .i64 j)) (.tmp 1) = .int .i64 (k + j) from ((put_ne (by omega)).trans ((put_ne (by omega)).trans ((put_ne (by omega)).trans (S.hk))))]
    refine wpl_index hA hkA ((put_ne (by omega)).trans ((put_ne (by omega)).trans ((put_ne (by omega)).trans (put_eq (by omega))))) ((put_ne (by omega)).trans ((put_ne (by omega)).trans (put_eq (by rw [put_sz]; omega)))) hi ?_
    refine wpl_fieldo (put_eq (by rw [put_sz, put_sz, put_sz, put_sz]; omega)) hf0 ?_
    refine wpl_fieldo (put_eq (by rw [put_sz, put_sz, put_sz, put_sz, put_sz]; omega)) hf1 ?_
    refine wpl_indexAo hR hkR (put_eq (by rw [put_sz, put_sz, put_sz, put_sz, put_sz, put_sz]; omega)) ((put_ne (by omega)).trans ((put_ne (by omega)).trans ((put_ne (by omega)).trans ((put_ne (by omega)).trans (put_eq (by rw [put_sz, put_sz]; omega)))))) hj ?_
    have hB := G.d.1
    have hul : us.length = m := hum
    rw [List.drop_eq_getElem_cons (by omega : j < us.length), show (pre ++ done ++ (mkA k j ++ us[j] :: us.drop (j + 1) ++ todo)) = (pre ++ done ++ mkA k j) ++ ([us[j]] ++ (us.drop (j + 1) ++ todo)) by simp only [List.append_assoc, List.cons_append, List.nil_append]] at hB
    refine wpl_store rfl tx (.tmp e7) (.tmp e3) rfl (put_eq (by rw [put_sz, put_sz, put_sz, put_sz, put_sz, put_sz, put_sz]; omega)) ((put_ne (by omega)).trans ((put_ne (by omega)).trans ((put_ne (by omega)).trans ((put_ne (by omega)).trans (put_eq (by rw [put_sz, put_sz, put_sz]; omega)))))) [.int .i64 (k + j)] (pre ++ done ++ mkA k j) [us[j]] (us.drop (j + 1) ++ todo) rfl (one1 rfl) ht rfl hB (by rw [List.length_append, List.length_append, h1, mkA_len, hK, hp]) rfl ?_
    intro V hV hg _
    have S9 : Sl N ci i (some ⟨p, o, none⟩) n c (k + j) ((((((((a.put (some e0) (.slice (some ⟨p, o, none⟩) n c)).put (some e1) (.int .i64 i)).put (some e2) (.int .i64 j)).put (some e3) (.int .i64 (k + j))).put (some e4) (.pointer (some ⟨p, o + i * K, none⟩))).put (some e5) (.pointer (some ⟨p, o + i * K + l0, none⟩))).put (some e6) (.pointer (some ⟨p, o + i * K + l0 + l1, none⟩))).put (some e7) (.pointer (some ⟨p, o + i * K + l0 + l1 + j, none⟩))) := ⟨((put_ne (by omega)).trans ((put_ne (by omega)).trans ((put_ne (by omega)).trans ((put_ne (by omega)).trans ((put_ne (by omega)).trans ((put_ne (by omega)).trans ((put_ne (by omega)).trans ((put_ne (by omega)).trans (S.hi))))))))), ((put_ne (by omega)).trans ((put_ne (by omega)).trans ((put_ne (by omega)).trans ((put_ne (by omega)).trans ((put_ne (by omega)).trans ((put_ne (by omega)).trans ((put_ne (by omega)).trans ((put_ne (by omega)).trans (S.s))))))))), ((put_ne (by omega)).trans ((put_ne (by omega)).trans ((put_ne (by omega)).trans ((put_ne (by omega)).trans ((put_ne (by omega)).trans ((put_ne (by omega)).trans ((put_ne (by omega)).trans ((put_ne (by omega)).trans (S.hk))))))))), (put_df.trans (put_df.trans (put_df.trans (put_df.trans (put_df.trans (put_df.trans (put_df.trans (put_df.trans (S.df))))))))), (by rw [put_sz, put_sz, put_sz, put_sz, put_sz, put_sz, put_sz, put_sz]; exact S.sz)⟩
    have J9 : Act.eval ((((((((a.put (some e0) (.slice (some ⟨p, o, none⟩) n c)).put (some e1) (.int .i64 i)).put (some e2) (.int .i64 j)).put (some e3) (.int .i64 (k + j))).put (some e4) (.pointer (some ⟨p, o + i * K, none⟩))).put (some e5) (.pointer (some ⟨p, o + i * K + l0, none⟩))).put (some e6) (.pointer (some ⟨p, o + i * K + l0 + l1, none⟩))).put (some e7) (.pointer (some ⟨p, o + i * K + l0 + l1 + j, none⟩))) (.tmp cj) = .int .i64 j := ((put_ne (by omega)).trans ((put_ne (by omega)).trans ((put_ne (by omega)).trans ((put_ne (by omega)).trans ((put_ne (by omega)).trans ((put_ne (by omega)).trans ((put_ne (by omega)).trans ((put_ne (by omega)).trans (G.hi)))))))))
    rw [put_none]
    refine wpl_nil ?_
    refine me_inc S9 h1c (by omega) (by omega) (by omega) (k' := k + ((j + 1 : Nat) : Int)) (by omega) ?_
    intro a' S' hj'
    refine kq a' V ⟨(hj' cj (by omega) (by omega)).trans J9, S'.df, S'.sz, S', ?_, G.d.2.trans (Chg.row hg)⟩
    rw [mkA_next]
    simpa only [List.append_assoc, List.cons_append, List.nil_append] using hV
  · intro a V G
    have S := G.x
    have hB := G.d.1
    rw [List.drop_of_length_le (by omega), List.append_nil, List.append_assoc] at hB
    have e2 : k0 + ((mTwo A (mArr m)).cntF (x, b) : Nat) = k + (m : Nat) := by
      show k0 + ((A.cntF x + m : Nat) : Int) = _
      omega
    refine kc a V (by rw [e2]; exact S) ?_
    refine Me.cell (T := mArr m) (b := b) (b' := (List.range m).map (fun (i : Nat) => k + (i : Int))) (vs' := mkA k m) h1 h3 h4 h5 M.chg np (fun _ => ⟨by simp [mkA], by simp⟩) mkA_len.symm ?_ rfl G.d.2 hB
    intro j y hy
    simp only [List.getElem?_map, Option.map_eq_some_iff] at hy
    obtain ⟨q, hq, rfl⟩ := hy
    obtain ⟨hq, e⟩ := List.getElem?_eq_some_iff.1 hq
    rw [List.getElem_range] at e
    omega
end

end Go.Proofs.Ytmfbmnpfgbenmaa
