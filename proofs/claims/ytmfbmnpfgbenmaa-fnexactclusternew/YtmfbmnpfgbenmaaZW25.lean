/-
  Functions that look for marks: their steps.
-/
import Derived.Test.YtmfbmnpfgbenmaaZW23
namespace Go.Proofs.Ytmfbmnpfgbenmaa
open Go.RowKit

section
variable {P : Program} {a : Act} {W : World} {Q : Exit → Act → World → Prop} {p : Nat} {N ci i o n c K id : Nat} {tA eA tx : TypeId} {t0 t1 t2 t3 t4 t5 t6 t7 t8 t9 t10 t11 t12 t13 : TypeId} {s0 s1 s2 s3 s4 s5 s6 s7 s8 s9 s10 s11 s12 s13 : String} {f0 f1 f2 f3 f4 f5 f6 f7 f8 f9 f10 f11 f12 f13 : Array Edge}
/-- One that bears its marks, somewhere in memory. -/
def HdE {α : Type} (T : Mw α) (W : World) (p off : Nat) (x : α) (k : Int) : Prop := ∃ us, p < W.heap.size ∧ Seg W p off us ∧ T.cd.rep W 0 us x ∧ T.ful x k
theorem HdE.lat {α : Type} {T : Mw α} {W V : World} {p off : Nat} {x : α} {k : Int} (H : HdE T W p off x k) (b : Below W.heap.size W V) : HdE T V p off x k := by
  obtain ⟨us, hp, hs, hr, hf⟩ := H
  exact ⟨us, Nat.lt_of_lt_of_le hp b.size, hs.frm (Fr.of b) (Nat.zero_le _) hp, T.cd.lat hr b, hf⟩
theorem Seg.left {W : World} {p off : Nat} {us ws : List Value} (h : Seg W p off (us ++ ws)) : Seg W p off us := fun i u hu => h i u (by rw [List.getElem?_append_left (List.getElem?_eq_some_iff.1 hu).1]; exact hu)
theorem Seg.right {W : World} {p off m : Nat} {us ws : List Value} (h : Seg W p off (us ++ ws)) (hm : us.length = m) : Seg W p (off + m) ws := fun i u hu => by
  have := h (m + i) u (by rw [List.getElem?_append_right (by omega), hm, Nat.add_sub_cancel_left]; exact hu)
  rw [Nat.add_assoc]
  exact this
theorem hdTwo {α β : Type} {A : Mw α} {T : Mw β} {W : World} {p off m : Nat} {x : α} {b : β} {k : Int} (hm : A.cd.k = m) (H : HdE (mTwo A T) W p off (x, b) k) : HdE A W p off x k ∧ HdE T W p (off + m) b (k + A.cntF x) := by
  obtain ⟨us, hp, hs, ⟨u1, u2, rfl, h1, h2⟩, f1, f2⟩ := H
  exact ⟨⟨u1, hp, hs.left, h1, f1⟩, ⟨u2, hp, hs.right ((A.cd.len h1).trans hm), h2, f2⟩⟩
theorem hdInt {W : World} {p off : Nat} {x k : Int} (H : HdE mInt W p off x k) : W.cell? ⟨p, off, none⟩ = some (.int .i64 k) := by
  obtain ⟨us, _, hs, hr, hf⟩ := H
  have e : us = [.int .i64 x] := hr
  have e2 : x = k := hf
  subst e e2
  exact hs.one
theorem hdByte {W : World} {p off : Nat} {x k : Int} (H : HdE mByte W p off x k) : W.cell? ⟨p, off, none⟩ = some (.int .u8 (IntKind.u8.wrap k)) := by
  obtain ⟨us, _, hs, hr, hf⟩ := H
  have e : us = [.int .u8 x] := hr.1
  have e2 : x = IntKind.u8.wrap k := hf
  subst e e2
  exact hs.one
theorem hdBool {W : World} {p off : Nat} {x : Bool} {k : Int} (H : HdE mBool W p off x k) : W.cell? ⟨p, off, none⟩ = some (.bool (decide (k % 3 = 0))) := by
  obtain ⟨us, _, hs, hr, hf⟩ := H
  have e : us = [.bool x] := hr
  have e2 : x = decide (k % 3 = 0) := hf
  subst e e2
  exact hs.one
theorem hdArr {W : World} {p off m : Nat} {xs : List Int} {k : Int} (H : HdE (mArr m) W p off xs k) (j : Nat) (hj : j < m) : W.cell? ⟨p, off + j, none⟩ = some (.int .i64 (k + j)) := by
  obtain ⟨us, _, hs, hr, hf⟩ := H
  obtain ⟨e, hl⟩ : us = xs.map (fun x => .int .i64 x) ∧ xs.length = m := hr
  have e2 : xs[j] = k + j := hf j _ (List.getElem?_eq_getElem (by omega))
  subst e
  exact hs j _ (by rw [List.getElem?_map, List.getElem?_eq_getElem (by omega), e2]; rfl)
/-- The count is not below 0. -/
theorem hd_chk {N ci i n c id id' e0 e1 : Nat} {o : Option Addr} {k : Int} {ti tj : TypeId} (S : Sl N ci i o n c k a) (h1c : 1 < ci) (hd : ci < e0 ∧ e0 < e1 ∧ e1 < N) (h0 : 0 ≤ k) (kc : ∀ a', Sl N ci i o n c k a' → Q .normal a' W) :
    Code.wp P ((Code.region id #[⟨some e0, .move (.tmp 1), t0, s0, f0, none⟩, ⟨some e1, .binOp .lss ti (.tmp e0) (.const (.int .i64 0)) tj, t1, s1, f1, none⟩] false).seq (Code.cond (.tmp e1) ((Code.region id' #[⟨some 4, .assign (.const (.int .i64 (-1))), t2, s2, f2, none⟩] false).seq Code.ret) Code.skip)) Q a W := by
  have hz := S.sz
  obtain ⟨q0, q1, q2⟩ := hd
  refine wp_seq (wp_region_list ?_)
  refine wpl_move ?_
  rw [S.hk]
  refine wpl_bin (u := .int .i64 k) (v := .int .i64 0) (put_eq (by omega)) rfl (run_lss W) (wpl_nil ?_)
  rw [decide_eq_false (by omega : ¬ k < 0)]
  exact wp_cond_false (put_eq (by rw [put_sz]; omega)) (wp_skip (kc _ ((S.put h1c q0 _).put h1c (by omega) _)))
theorem hd_i0 {e0 e1 e2 e3 e4 e5 id' off : Nat} {ty tz : TypeId} {k : Int} {b : Int} (S : Sl N ci i (some ⟨p, o, none⟩) n c k a) (H : HdE mInt W p off b k) (hd : ci < e0 ∧ e0 < e1 ∧ e1 < e2 ∧ e2 < e3 ∧ e3 < e4 ∧ e4 < e5 ∧ e5 < N) (hA : P.underlying tA = some (.slice eA)) (hkA : (P.info? eA).map (·.size) = some K) (ht : Sca P tx) (hi : i < n) (h1c : 1 < ci) (ho : off = o + i * K)
    (kc : ∀ a', Sl N ci i (some ⟨p, o, none⟩) n c k a' → Q .normal a' W) :
    Code.wp P ((Code.region id #[⟨some e0, .move (.tmp 0), t0, s0, f0, none⟩, ⟨some e1, .move (.tmp ci), t1, s1, f1, none⟩, ⟨some e2, .indexAddr tA (.tmp e0) (.tmp e1), t2, s2, f2, none⟩, ⟨some e3, .load tx (.tmp e2), t3, s3, f3, none⟩, ⟨some e4, .move (.tmp 1), t4, s4, f4, none⟩, ⟨some e5, .binOp .neq ty (.tmp e3) (.tmp e4) tz, t5, s5, f5, none⟩] false).seq (Code.cond (.tmp e5) ((Code.region id' #[⟨some 4, .assign (.const (.int .i64 (-1))), t13, s13, f13, none⟩] false).seq Code.ret) Code.skip)) Q a W := by
  have hz := S.sz
  subst ho
  have hcell := hdInt H
  obtain ⟨q0, q1, q2, q3, q4, q5, q6⟩ := hd
  refine wp_seq (wp_region_list ?_)
  refine wpl_move ?_
  rw [S.s]
  refine wpl_move ?_
  rw [show Act.eval (a.put (some e0) (.slice (some ⟨p, o, none⟩) n c)) (.tmp ci) = .int .i64 i from ((put_ne (by omega)).trans (S.hi))]
  refine wpl_index hA hkA ((put_ne (by omega)).trans (put_eq (by omega))) (put_eq (by rw [put_sz]; omega)) hi ?_
  refine wpl_loadS rfl tx (.tmp e2) rfl (put_eq (by rw [put_sz, put_sz]; omega)) (.int .i64 k) ht hcell ?_
  refine wpl_move ?_
  rw [show Act.eval ((((a.put (some e0) (.slice (some ⟨p, o, none⟩) n c)).put (some e1) (.int .i64 i)).put (some e2) (.pointer (some ⟨p, o + i * K, none⟩))).put (some e3) (.int .i64 k)) (.tmp 1) = .int .i64 k from ((put_ne (by omega)).trans ((put_ne (by omega)).trans ((put_ne (by omega)).trans ((put_ne (by omega)).trans (S.hk)))))]
  refine wpl_bin ((put_ne (by omega)).trans (put_eq (by rw [put_sz, put_sz, put_sz]; omega))) (put_eq (by rw [put_sz, put_sz, put_sz, put_sz]; omega)) (neq_int _ _ W) (wpl_nil ?_)
  have S9 : Sl N ci i (some ⟨p, o, none⟩) n c k ((((((a.put (some e0) (.slice (some ⟨p, o, none⟩) n c)).put (some e1) (.int .i64 i)).put (some e2) (.pointer (some ⟨p, o + i * K, none⟩))).put (some e3) (.int .i64 k)).put (some e4) (.int .i64 k)).put (some e5) (.bool false)) := ⟨((put_ne (by omega)).trans ((put_ne (by omega)).trans ((put_ne (by omega)).trans ((put_ne (by omega)).trans ((put_ne (by omega)).trans ((put_ne (by omega)).trans (S.hi))))))), ((put_ne (by omega)).trans ((put_ne (by omega)).trans ((put_ne (by omega)).trans ((put_ne (by omega)).trans ((put_ne (by omega)).trans ((put_ne (by omega)).trans (S.s))))))), ((put_ne (by omega)).trans ((put_ne (by omega)).trans ((put_ne (by omega)).trans ((put_ne (by omega)).trans ((put_ne (by omega)).trans ((put_ne (by omega)).trans (S.hk))))))), (put_df.trans (put_df.trans (put_df.trans (put_df.trans (put_df.trans (put_df.trans (S.df))))))), (by rw [put_sz, put_sz, put_sz, put_sz, put_sz, put_sz]; exact S.sz)⟩
  exact wp_cond_false (put_eq (by rw [put_sz, put_sz, put_sz, put_sz, put_sz]; omega)) (wp_skip (kc _ S9))
theorem hd_i1 {g0 : TypeId} {j0 l0 : Nat} {e0 e1 e2 e3 e4 e5 e6 id' off : Nat} {ty tz : TypeId} {k : Int} {b : Int} (S : Sl N ci i (some ⟨p, o, none⟩) n c k a) (H : HdE mInt W p off b k) (hd : ci < e0 ∧ e0 < e1 ∧ e1 < e2 ∧ e2 < e3 ∧ e3 < e4 ∧ e4 < e5 ∧ e5 < e6 ∧ e6 < N) (hA : P.underlying tA = some (.slice eA)) (hkA : (P.info? eA).map (·.size) = some K) (hf0 : fldB P g0 j0 l0 = true) (ht : Sca P tx) (hi : i < n) (h1c : 1 < ci) (ho : off = o + i * K + l0)
    (kc : ∀ a', Sl N ci i (some ⟨p, o, none⟩) n c k a' → Q .normal a' W) :
    Code.wp P ((Code.region id #[⟨some e0, .move (.tmp 0), t0, s0, f0, none⟩, ⟨some e1, .move (.tmp ci), t1, s1, f1, none⟩, ⟨some e2, .indexAddr tA (.tmp e0) (.tmp e1), t2, s2, f2, none⟩, ⟨some e3, .fieldAddr g0 (.tmp e2) j0, t3, s3, f3, none⟩, ⟨some e4, .load tx (.tmp e3), t4, s4, f4, none⟩, ⟨some e5, .move (.tmp 1), t5, s5, f5, none⟩, ⟨some e6, .binOp .neq ty (.tmp e4) (.tmp e5) tz, t6, s6, f6, none⟩] false).seq (Code.cond (.tmp e6) ((Code.region id' #[⟨some 4, .assign (.const (.int .i64 (-1))), t13, s13, f13, none⟩] false).seq Code.ret) Code.skip)) Q a W := by
  have hz := S.sz
  subst ho
  have hcell := hdInt H
  obtain ⟨q0, q1, q2, q3, q4, q5, q6, q7⟩ := hd
  refine wp_seq (wp_region_list ?_)
  refine wpl_move ?_
  rw [S.s]
  refine wpl_move ?_
  rw [show Act.eval (a.put (some e0) (.slice (some ⟨p, o, none⟩) n c)) (.tmp ci) = .int .i64 i from ((put_ne (by omega)).trans (S.hi))]
  refine wpl_index hA hkA ((put_ne (by omega)).trans (put_eq (by omega))) (put_eq (by rw [put_sz]; omega)) hi ?_
  refine wpl_fieldo (put_eq (by rw [put_sz, put_sz]; omega)) hf0 ?_
  refine wpl_loadS rfl tx (.tmp e3) rfl (put_eq (by rw [put_sz, put_sz, put_sz]; omega)) (.int .i64 k) ht hcell ?_
  refine wpl_move ?_
  rw [show Act.eval (((((a.put (some e0) (.slice (some ⟨p, o, none⟩) n c)).put (some e1) (.int .i64 i)).put (some e2) (.pointer (some ⟨p, o + i * K, none⟩))).put (some e3) (.pointer (some ⟨p, o + i * K + l0, none⟩))).put (some e4) (.int .i64 k)) (.tmp 1) = .int .i64 k from ((put_ne (by omega)).trans ((put_ne (by omega)).trans ((put_ne (by omega)).trans ((put_ne (by omega)).trans ((put_ne (by omega)).trans (S.hk))))))]
  refine wpl_bin ((put_ne (by omega)).trans (put_eq (by rw [put_sz, put_sz, put_sz, put_sz]; omega))) (put_eq (by rw [put_sz, put_sz, put_sz, put_sz, put_sz]; omega)) (neq_int _ _ W) (wpl_nil ?_)
  have S9 : Sl N ci i (some ⟨p, o, none⟩) n c k (((((((a.put (some e0) (.slice (some ⟨p, o, none⟩) n c)).put (some e1) (.int .i64 i)).put (some e2) (.pointer (some ⟨p, o + i * K, none⟩))).put (some e3) (.pointer (some ⟨p, o + i * K + l0, none⟩))).put (some e4) (.int .i64 k)).put (some e5) (.int .i64 k)).put (some e6) (.bool false)) := ⟨((put_ne (by omega)).trans ((put_ne (by omega)).trans ((put_ne (by omega)).trans ((put_ne (by omega)).trans ((put_ne (by omega)).trans ((put_ne (by omega)).trans ((put_ne (by omega)).trans (S.hi)))))))), ((put_ne (by omega)).trans ((put_ne (by omega)).trans ((put_ne (by omega)).trans ((put_ne (by omega)).trans ((put_ne (by omega)).trans ((put_ne (by omega)).trans ((put_ne (by omega)).trans (S.s)))))))), ((put_ne (by omega)).trans ((put_ne (by omega)).trans ((put_ne (by omega)).trans ((put_ne (by omega)).trans ((put_ne (by omega)).trans ((put_ne (by omega)).trans ((put_ne (by omega)).trans (S.hk)))))))), (put_df.trans (put_df.trans (put_df.trans (put_df.trans (put_df.trans (put_df.trans (put_df.trans (S.df)))))))), (by rw [put_sz, put_sz, put_sz, put_sz, put_sz, put_sz, put_sz]; exact S.sz)⟩
  exact wp_cond_false (put_eq (by rw [put_sz, put_sz, put_sz, put_sz, put_sz, put_sz]; omega)) (wp_skip (kc _ S9))
theorem hd_i2 {g0 : TypeId} {j0 l0 : Nat} {g1 : TypeId} {j1 l1 : Nat} {e0 e1 e2 e3 e4 e5 e6 e7 id' off : Nat} {ty tz : TypeId} {k : Int} {b : Int} (S : Sl N ci i (some ⟨p, o, none⟩) n c k a) (H : HdE mInt W p off b k) (hd : ci < e0 ∧ e0 < e1 ∧ e1 < e2 ∧ e2 < e3 ∧ e3 < e4 ∧ e4 < e5 ∧ e5 < e6 ∧ e6 < e7 ∧ e7 < N) (hA : P.underlying tA = some (.slice eA)) (hkA : (P.info? eA).map (·.size) = some K) (hf0 : fldB P g0 j0 l0 = true) (hf1 : fldB P g1 j1 l1 = true) (ht : Sca P tx) (hi : i < n) (h1c : 1 < ci) (ho : off = o + i * K + l0 + l1)
    (kc : ∀ a', Sl N ci i (some ⟨p, o, none⟩) n c k a' → Q .normal a' W) :
    Code.wp P ((Code.region id #[⟨some e0, .move (.tmp 0), t0, s0, f0, none⟩, ⟨some e1, .move (.tmp ci), t1, s1, f1, none⟩, ⟨some e2, .indexAddr tA (.tmp e0) (.tmp e1), t2, s2, f2, none⟩, ⟨some e3, .fieldAddr g0 (.tmp e2) j0, t3, s3, f3, none⟩, ⟨some e4, .fieldAddr g1 (.tmp e3) j1, t4, s4, f4, none⟩, ⟨some e5, .load tx (.tmp e4), t5, s5, f5, none⟩, ⟨some e6, .move (.tmp 1), t6, s6, f6, none⟩, ⟨some e7, .binOp .neq ty (.tmp e5) (.tmp e6) tz, t7, s7, f7, none⟩] false).seq (Code.cond (.tmp e7) ((Code.region id' #[⟨some 4, .assign (.const (.int .i64 (-1))), t13, s13, f13, none⟩] false).seq Code.ret) Code.skip)) Q a W := by
  have hz := S.sz
  subst ho
  have hcell := hdInt H
  obtain ⟨q0, q1, q2, q3, q4, q5, q6, q7, q8⟩ := hd
  refine wp_seq (wp_region_list ?_)
  refine wpl_move ?_
  rw [S.s]
  refine wpl_move ?_
  rw [show Act.eval (a.put (some e0) (.slice (some ⟨p, o, none⟩) n c)) (.tmp ci) = .int .i64 i from ((put_ne (by omega)).trans (S.hi))]
  refine wpl_index hA hkA ((put_ne (by omega)).trans (put_eq (by omega))) (put_eq (by rw [put_sz]; omega)) hi ?_
  refine wpl_fieldo (put_eq (by rw [put_sz, put_sz]; omega)) hf0 ?_
  refine wpl_fieldo (put_eq (by rw [put_sz, put_sz, put_sz]; omega)) hf1 ?_
  refine wpl_loadS rfl tx (.tmp e4) rfl (put_eq (by rw [put_sz, put_sz, put_sz, put_sz]; omega)) (.int .i64 k) ht hcell ?_
  refine wpl_move ?_
  rw [show Act.eval ((((((a.put (some e0) (.slice (some ⟨p, o, none⟩) n c)).put (some e1) (.int .i64 i)).put (some e2) (.pointer (some ⟨p, o + i * K, none⟩))).put (some e3) (.pointer (some ⟨p, o + i * K + l0, none⟩))).put (some e4) (.pointer (some ⟨p, o + i * K + l0 + l1, none⟩))).put (some e5) (.int .i64 k)) (.tmp 1) = .int .i64 k from ((put_ne (by omega)).trans ((put_ne (by omega)).trans ((put_ne (by omega)).trans ((put_ne (by omega)).trans ((put_ne (by omega)).trans ((put_ne (by omega)).trans (S.hk)))))))]
  refine wpl_bin ((put_ne (by omega)).trans (put_eq (by rw [put_sz, put_sz, put_sz, put_sz, put_sz]; omega))) (put_eq (by rw [put_sz, put_sz, put_sz, put_sz, put_sz, put_sz]; omega)) (neq_int _ _ W) (wpl_nil ?_)
  have S9 : Sl N ci i (some ⟨p, o, none⟩) n c k ((((((((a.put (some e0) (.slice (some ⟨p, o, none⟩) n c)).put (some e1) (.int .i64 i)).put (some e2) (.pointer (some ⟨p, o + i * K, none⟩))).put (some e3) (.pointer (some ⟨p, o + i * K + l0, none⟩))).put (some e4) (.pointer (some ⟨p, o + i * K + l0 + l1, none⟩))).put (some e5) (.int .i64 k)).put (some e6) (.int .i64 k)).put (some e7) (.bool false)) := ⟨((put_ne (by omega)).trans ((put_ne (by omega)).trans ((put_ne (by omega)).trans ((put_ne (by omega)).trans ((put_ne (by omega)).trans ((put_ne (by omega)).trans ((put_ne (by omega)).trans ((put_ne (by omega)).trans (S.hi))))))))), ((put_ne (by omega)).trans ((put_ne (by omega)).trans ((put_ne (by omega)).trans ((put_ne (by omega)).trans ((put_ne (by omega)).trans ((put_ne (by omega)).trans ((put_ne (by omega)).trans ((put_ne (by omega)).trans (S.s))))))))), ((put_ne (by omega)).trans ((put_ne (by omega)).trans ((put_ne (by omega)).trans ((put_ne (by omega)).trans ((put_ne (by omega)).trans ((put_ne (by omega)).trans ((put_ne (by omega)).trans ((put_ne (by omega)).trans (S.hk))))))))), (put_df.trans (put_df.trans (put_df.trans (put_df.trans (put_df.trans (put_df.trans (put_df.trans (put_df.trans (S.df))))))))), (by rw [put_sz, put_sz, put_sz, put_sz, put_sz, put_sz, put_sz, put_sz]; exact S.sz)⟩
  exact wp_cond_false (put_eq (by rw [put_sz, put_sz, put_sz, put_sz, put_sz, put_sz, put_sz]; omega)) (wp_skip (kc _ S9))
theorem hd_i3 {g0 : TypeId} {j0 l0 : Nat} {g1 : TypeId} {j1 l1 : Nat} {g2 : TypeId} {j2 l2 : Nat} {e0 e1 e2 e3 e4 e5 e6 e7 e8 id' off : Nat} {ty tz : TypeId} {k : Int} {b : Int} (S : Sl N ci i (some ⟨p, o, none⟩) n c k a) (H : HdE mInt W p off b k) (hd : ci < e0 ∧ e0 < e1 ∧ e1 < e2 ∧ e2 < e3 ∧ e3 < e4 ∧ e4 < e5 ∧ e5 < e6 ∧ e6 < e7 ∧ e7 < e8 ∧ e8 < N) (hA : P.underlying tA = some (.slice eA)) (hkA : (P.info? eA).map (·.size) = some K) (hf0 : fldB P g0 j0 l0 = true) (hf1 : fldB P g1 j1 l1 = true) (hf2 : fldB P g2 j2 l2 = true) (ht : Sca P tx) (hi : i < n) (h1c : 1 < ci) (ho : off = o + i * K + l0 + l1 + l2)
    (kc : ∀ a', Sl N ci i (some ⟨p, o, none⟩) n c k a' → Q .normal a' W) :
    Code.wp P ((Code.region id #[⟨some e0, .move (.tmp 0), t0, s0, f0, none⟩, ⟨some e1, .move (.tmp ci), t1, s1, f1, none⟩, ⟨some e2, .indexAddr tA (.tmp e0) (.tmp e1), t2, s2, f2, none⟩, ⟨some e3, .fieldAddr g0 (.tmp e2) j0, t3, s3, f3, none⟩, ⟨some e4, .fieldAddr g1 (.tmp e3) j1, t4, s4, f4, none⟩, ⟨some e5, .fieldAddr g2 (.tmp e4) j2, t5, s5, f5, none⟩, ⟨some e6, .load tx (.tmp e5), t6, s6, f6, none⟩, ⟨some e7, .move (.tmp 1), t7, s7, f7, none⟩, ⟨some e8, .binOp .neq ty (.tmp e6) (.tmp e7) tz, t8, s8, f8, none⟩] false).seq (Code.cond (.tmp e8) ((Code.region id' #[⟨some 4, .assign (.const (.int .i64 (-1))), t13, s13, f13, none⟩] false).seq Code.ret) Code.skip)) Q a W := by
  have hz := S.sz
  subst ho
  have hcell := hdInt H
  obtain ⟨q0, q1, q2, q3, q4, q5, q6, q7, q8, q9⟩ := hd
  refine wp_seq (wp_region_list ?_)
  refine wpl_move ?_
  rw [S.s]
  refine wpl_move ?_
  rw [show Act.eval (a.put (some e0) (.slice (some ⟨p, o, none⟩) n c)) (.tmp ci) = .int .i64 i from ((put_ne (by omega)).trans (S.hi))]
  refine wpl_index hA hkA ((put_ne (by omega)).trans (put_eq (by omega))) (put_eq (by rw [put_sz]; omega)) hi ?_
  refine wpl_fieldo (put_eq (by rw [put_sz, put_sz]; omega)) hf0 ?_
  refine wpl_fieldo (put_eq (by rw [put_sz, put_sz, put_sz]; omega)) hf1 ?_
  refine wpl_fieldo (put_eq (by rw [put_sz, put_sz, put_sz, put_sz]; omega)) hf2 ?_
  refine wpl_loadS rfl tx (.tmp e5) rfl (put_eq (by rw [put_sz, put_sz, put_sz, put_sz, put_sz]; omega)) (.int .i64 k) ht hcell ?_
  refine wpl_move ?_
  rw [show Act.eval (((((((a.put (some e0) (.slice (some ⟨p, o, none⟩) n c)).put (some e1) (.int .i64 i)).put (some e2) (.pointer (some ⟨p, o + i * K, none⟩))).put (some e3) (.pointer (some ⟨p, o + i * K + l0, none⟩))).put (some e4) (.pointer (some ⟨p, o + i * K + l0 + l1, none⟩))).put (some e5) (.pointer (some ⟨p, o + i * K + l0 + l1 + l2, none⟩))).put (some e6) (.int .i64 k)) (.tmp 1) = .int .i64 k from ((put_ne (by omega)).trans ((put_ne (by omega)).trans ((put_ne (by omega)).trans ((put_ne (by omega)).trans ((put_ne (by omega)).trans ((put_ne (by omega)).trans ((put_ne (by omega)).trans (S.hk))))))))]
  refine wpl_bin ((put_ne (by omega)).trans (put_eq (by rw [put_sz, put_sz, put_sz, put_sz, put_sz, put_sz]; omega))) (put_eq (by rw [put_sz, put_sz, put_sz, put_sz, put_sz, put_sz, put_sz]; omega)) (neq_int _ _ W) (wpl_nil ?_)
  have S9 : Sl N ci i (some ⟨p, o, none⟩) n c k (((((((((a.put (some e0) (.slice (some ⟨p, o, none⟩) n c)).put (some e1) (.int .i64 i)).put (some e2) (.pointer (some ⟨p, o + i * K, none⟩))).put (some e3) (.pointer (some ⟨p, o + i * K + l0, none⟩))).put (some e4) (.pointer (some ⟨p, o + i * K + l0 + l1, none⟩))).put (some e5) (.pointer (some ⟨p, o + i * K + l0 + l1 + l2, none⟩))).put (some e6) (.int .i64 k)).put (some e7) (.int .i64 k)).put (some e8) (.bool false)) := ⟨((put_ne (by omega)).trans ((put_ne (by omega)).trans ((put_ne (by omega)).trans ((put_ne (by omega)).trans ((put_ne (by omega)).trans ((put_ne (by omega)).trans ((put_ne (by omega)).trans ((put_ne (by omega)).trans ((put_ne (by omega)).trans (S.hi)))))))))), ((put_ne (by omega)).trans ((put_ne (by omega)).trans ((put_ne (by omega)).trans ((put_ne (by omega)).trans ((put_ne (by omega)).trans ((put_ne (by omega)).trans ((put_ne (by omega)).trans ((put_ne (by omega)).trans ((put_ne (by omega)).trans (S.s)))))))))), ((put_ne (by omega)).trans ((put_ne (by omega)).trans ((put_ne (by omega)).trans ((put_ne (by omega)).trans ((put_ne (by omega)).trans ((put_ne (by omega)).trans ((put_ne (by omega)).trans ((put_ne (by omega)).trans ((put_ne (by omega)).trans (S.hk)))))))))), (put_df.trans (put_df.trans (put_df.trans (put_df.trans (put_df.trans (put_df.trans (put_df.trans (put_df.trans (put_df.trans (S.df)))))))))), (by rw [put_sz, put_sz, put_sz, put_sz, put_sz, put_sz, put_sz, put_sz, put_sz]; exact S.sz)⟩
  exact wp_cond_false (put_eq (by rw [put_sz, put_sz, put_sz, put_sz, put_sz, put_sz, put_sz, put_sz]; omega)) (wp_skip (kc _ S9))
theorem hd_i4 {g0 : TypeId} {j0 l0 : Nat} {g1 : TypeId} {j1 l1 : Nat} {g2 : TypeId} {j2 l2 : Nat} {g3 : TypeId} {j3 l3 : Nat} {e0 e1 e2 e3 e4 e5 e6 e7 e8 e9 id' off : Nat} {ty tz : TypeId} {k : Int} {b : Int} (S : Sl N ci i (some ⟨p, o, none⟩) n c k a) (H : HdE mInt W p off b k) (hd : ci < e0 ∧ e0 < e1 ∧ e1 < e2 ∧ e2 < e3 ∧ e3 < e4 ∧ e4 < e5 ∧ e5 < e6 ∧ e6 < e7 ∧ e7 < e8 ∧ e8 < e9 ∧ e9 < N) (hA : P.underlying tA = some (.slice eA)) (hkA : (P.info? eA).map (·.size) = some K) (hf0 : fldB P g0 j0 l0 = true) (hf1 : fldB P g1 j1 l1 = true) (hf2 : fldB P g2 j2 l2 = true) (hf3 : fldB P g3 j3 l3 = true) (ht : Sca P tx) (hi : i < n) (h1c : 1 < ci) (ho : off = o + i * K + l0 + l1 + l2 + l3)
    (kc : ∀ a', Sl N ci i (some ⟨p, o, none⟩) n c k a' → Q .normal a' W) :
    Code.wp P ((Code.region id #[⟨some e0, .move (.tmp 0), t0, s0, f0, none⟩, ⟨some e1, .move (.tmp ci), t1, s1, f1, none⟩, ⟨some e2, .indexAddr tA (.tmp e0) (.tmp e1), t2, s2, f2, none⟩, ⟨some e3, .fieldAddr g0 (.tmp e2) j0, t3, s3, f3, none⟩, ⟨some e4, .fieldAddr g1 (.tmp e3) j1, t4, s4, f4, none⟩, ⟨some e5, .fieldAddr g2 (.tmp e4) j2, t5, s5, f5, none⟩, ⟨some e6, .fieldAddr g3 (.tmp e5) j3, t6, s6, f6, none⟩, ⟨some e7, .load tx (.tmp e6), t7, s7, f7, none⟩, ⟨some e8, .move (.tmp 1), t8, s8, f8, none⟩, ⟨some e9, .binOp .neq ty (.tmp e7) (.tmp e8) tz, t9, s9, f9, none⟩] false).seq (Code.cond (.tmp e9) ((Code.region id' #[⟨some 4, .assign (.const (.int .i64 (-1))), t13, s13, f13, none⟩] false).seq Code.ret) Code.skip)) Q a W := by
  have hz := S.sz
  subst ho
  have hcell := hdInt H
  obtain ⟨q0, q1, q2, q3, q4, q5, q6, q7, q8, q9, q10⟩ := hd
  refine wp_seq (wp_region_list ?_)
  refine wpl_move ?_
  rw [S.s]
  refine wpl_move ?_
  rw [show Act.eval (a.put (some e0) (.slice (some ⟨p, o, none⟩) n c)) (.tmp ci) = .int .i64 i from ((put_ne (by omega)).trans (S.hi))]
  refine wpl_index hA hkA ((put_ne (by omega)).trans (put_eq (by omega))) (put_eq (by rw [put_sz]; omega)) hi ?_
  refine wpl_fieldo (put_eq (by rw [put_sz, put_sz]; omega)) hf0 ?_
  refine wpl_fieldo (put_eq (by rw [put_sz, put_sz, put_sz]; omega)) hf1 ?_
  refine wpl_fieldo (put_eq (by rw [put_sz, put_sz, put_sz, put_sz]; omega)) hf2 ?_
  refine wpl_fieldo (put_eq (by rw [put_sz, put_sz, put_sz, put_sz, put_sz]; omega)) hf3 ?_
  refine wpl_loadS rfl tx (.tmp e6) rfl (put_eq (by rw [put_sz, put_sz, put_sz, put_sz, put_sz, put_sz]; omega)) (.int .i64 k) ht hcell ?_
  refine wpl_move ?_
  rw [show Act.eval ((((((((a.put (some e0) (.slice (some ⟨p, o, none⟩) n c)).put (some e1) (.int .i64 i)).put (some e2) (.pointer (some ⟨p, o + i * K, none⟩))).put (some e3) (.pointer (some ⟨p, o + i * K + l0, none⟩))).put (some e4) (.pointer (some ⟨p, o + i * K + l0 + l1, none⟩))).put (some e5) (.pointer (some ⟨p, o + i * K + l0 + l1 + l2, none⟩))).put (some e6) (.pointer (some ⟨p, o + i * K + l0 + l1 + l2 + l3, none⟩))).put (some e7) (.int .i64 k)) (.tmp 1) = .int .i64 k from ((put_ne (by omega)).trans ((put_ne (by omega)).trans ((put_ne (by omega)).trans ((put_ne (by omega)).trans ((put_ne (by omega)).trans ((put_ne (by omega)).trans ((put_ne (by omega)).trans ((put_ne (by omega)).trans (S.hk)))))))))]
  refine wpl_bin ((put_ne (by omega)).trans (put_eq (by rw [put_sz, put_sz, put_sz, put_sz, put_sz, put_sz, put_sz]; omega))) (put_eq (by rw [put_sz, put_sz, put_sz, put_sz, put_sz, put_sz, put_sz, put_sz]; omega)) (neq_int _ _ W) (wpl_nil ?_)
  have S9 : Sl N ci i (some ⟨p, o, none⟩) n c k ((((((((((a.put (some e0) (.slice (some ⟨p, o, none⟩) n c)).put (some e1) (.int .i64 i)).put (some e2) (.pointer (some ⟨p, o + i * K, none⟩))).put (some e3) (.pointer (some ⟨p, o + i * K + l0, none⟩))).put (some e4) (.pointer (some ⟨p, o + i * K + l0 + l1, none⟩))).put (some e5) (.pointer (some ⟨p, o + i * K + l0 + l1 + l2, none⟩))).put (some e6) (.pointer (some ⟨p, o + i * K + l0 + l1 + l2 + l3, none⟩))).put (some e7) (.int .i64 k)).put (some e8) (.int .i64 k)).put (some e9) (.bool false)) := ⟨((put_ne (by omega)).trans ((put_ne (by omega)).trans ((put_ne (by omega)).trans ((put_ne (by omega)).trans ((put_ne (by omega)).trans ((put_ne (by omega)).trans ((put_ne (by omega)).trans ((put_ne (by omega)).trans ((put_ne (by omega)).trans ((put_ne (by omega)).trans (S.hi))))))))))), ((put_ne (by omega)).trans ((put_ne (by omega)).trans ((put_ne (by omega)).trans ((put_ne (by omega)).trans ((put_ne (by omega)).trans ((put_ne (by omega)).trans ((put_ne (by omega)).trans ((put_ne (by omega)).trans ((put_ne (by omega)).trans ((put_ne (by omega)).trans (S.s))))))))))), ((put_ne (by omega)).trans ((put_ne (by omega)).trans ((put_ne (by omega)).trans ((put_ne (by omega)).trans ((put_ne (by omega)).trans ((put_ne (by omega)).trans ((put_ne (by omega)).trans ((put_ne (by omega)).trans ((put_ne (by omega)).trans ((put_ne (by omega)).trans (S.hk))))))))))), (put_df.trans (put_df.trans (put_df.trans (put_df.trans (put_df.trans (put_df.trans (put_df.trans (put_df.trans (put_df.trans (put_df.trans (S.df))))))))))), (by rw [put_sz, put_sz, put_sz, put_sz, put_sz, put_sz, put_sz, put_sz, put_sz, put_sz]; exact S.sz)⟩
  exact wp_cond_false (put_eq (by rw [put_sz, put_sz, put_sz, put_sz, put_sz, put_sz, put_sz, put_sz, put_sz]; omega)) (wp_skip (kc _ S9))
theorem hd_B0 {e0 e1 e2 e3 e4 e5 e6 id' off : Nat} {ty tz : TypeId} {k : Int} {b : Int} (S : Sl N ci i (some ⟨p, o, none⟩) n c k a) (H : HdE mByte W p off b k) (hd : ci < e0 ∧ e0 < e1 ∧ e1 < e2 ∧ e2 < e3 ∧ e3 < e4 ∧ e4 < e5 ∧ e5 < e6 ∧ e6 < N) (hA : P.underlying tA = some (.slice eA)) (hkA : (P.info? eA).map (·.size) = some K) (ht : Sca P tx) {tc td : TypeId} (hc1 : P.underlying tc = some (.int .i64)) (hc2 : P.underlying td = some (.int .u8)) (hi : i < n) (h1c : 1 < ci) (ho : off = o + i * K)
    (kc : ∀ a', Sl N ci i (some ⟨p, o, none⟩) n c k a' → Q .normal a' W) :
    Code.wp P ((Code.region id #[⟨some e0, .move (.tmp 0), t0, s0, f0, none⟩, ⟨some e1, .move (.tmp ci), t1, s1, f1, none⟩, ⟨some e2, .indexAddr tA (.tmp e0) (.tmp e1), t2, s2, f2, none⟩, ⟨some e3, .load tx (.tmp e2), t3, s3, f3, none⟩, ⟨some e4, .move (.tmp 1), t4, s4, f4, none⟩, ⟨some e5, .convert tc td (.tmp e4), t5, s5, f5, none⟩, ⟨some e6, .binOp .neq ty (.tmp e3) (.tmp e5) tz, t6, s6, f6, none⟩] false).seq (Code.cond (.tmp e6) ((Code.region id' #[⟨some 4, .assign (.const (.int .i64 (-1))), t13, s13, f13, none⟩] false).seq Code.ret) Code.skip)) Q a W := by
  have hz := S.sz
  subst ho
  have hcell := hdByte H
  obtain ⟨q0, q1, q2, q3, q4, q5, q6, q7⟩ := hd
  refine wp_seq (wp_region_list ?_)
  refine wpl_move ?_
  rw [S.s]
  refine wpl_move ?_
  rw [show Act.eval (a.put (some e0) (.slice (some ⟨p, o, none⟩) n c)) (.tmp ci) = .int .i64 i from ((put_ne (by omega)).trans (S.hi))]
  refine wpl_index hA hkA ((put_ne (by omega)).trans (put_eq (by omega))) (put_eq (by rw [put_sz]; omega)) hi ?_
  refine wpl_loadS rfl tx (.tmp e2) rfl (put_eq (by rw [put_sz, put_sz]; omega)) (.int .u8 (IntKind.u8.wrap k)) ht hcell ?_
  refine wpl_move ?_
  rw [show Act.eval ((((a.put (some e0) (.slice (some ⟨p, o, none⟩) n c)).put (some e1) (.int .i64 i)).put (some e2) (.pointer (some ⟨p, o + i * K, none⟩))).put (some e3) (.int .u8 (IntKind.u8.wrap k))) (.tmp 1) = .int .i64 k from ((put_ne (by omega)).trans ((put_ne (by omega)).trans ((put_ne (by omega)).trans ((put_ne (by omega)).trans (S.hk)))))]
  refine wpl_conv hc1 hc2 (put_eq (by rw [put_sz, put_sz, put_sz, put_sz]; omega)) ?_
  refine wpl_bin ((put_ne (by omega)).trans ((put_ne (by omega)).trans (put_eq (by rw [put_sz, put_sz, put_sz]; omega)))) (put_eq (by rw [put_sz, put_sz, put_sz, put_sz, put_sz]; omega)) (neq_int _ _ W) (wpl_nil ?_)
  have S9 : Sl N ci i (some ⟨p, o, none⟩) n c k (((((((a.put (some e0) (.slice (some ⟨p, o, none⟩) n c)).put (some e1) (.int .i64 i)).put (some e2) (.pointer (some ⟨p, o + i * K, none⟩))).put (some e3) (.int .u8 (IntKind.u8.wrap k))).put (some e4) (.int .i64 k)).put (some e5) (.int .u8 (IntKind.u8.wrap k))).put (some e6) (.bool false)) := ⟨((put_ne (by omega)).trans ((put_ne (by omega)).trans ((put_ne (by omega)).trans ((put_ne (by omega)).trans ((put_ne (by omega)).trans ((put_ne (by omega)).trans ((put_ne (by omega)).trans (S.hi)))))))), ((put_ne (by omega)).trans ((put_ne (by omega)).trans ((put_ne (by omega)).trans ((put_ne (by omega)).trans ((put_ne (by omega)).trans ((put_ne (by omega)).trans ((put_ne (by omega)).trans (S.s)))))))), ((put_ne (by omega)).trans ((put_ne (by omega)).trans ((put_ne (by omega)).trans ((put_ne (by omega)).trans ((put_ne (by omega)).trans ((put_ne (by omega)).trans ((put_ne (by omega)).trans (S.hk)))))))), (put_df.trans (put_df.trans (put_df.trans (put_df.trans (put_df.trans (put_df.trans (put_df.trans (S.df)))))))), (by rw [put_sz, put_sz, put_sz, put_sz, put_sz, put_sz, put_sz]; exact S.sz)⟩
  exact wp_cond_false (put_eq (by rw [put_sz, put_sz, put_sz, put_sz, put_sz, put_sz]; omega)) (wp_skip (kc _ S9))
theorem hd_b1 {g0 : TypeId} {j0 l0 : Nat} {e0 e1 e2 e3 e4 e5 e6 e7 e8 id' off : Nat} {ty tz : TypeId} {k : Int} {b : Bool} (S : Sl N ci i (some ⟨p, o, none⟩) n c k a) (H : HdE mBool W p off b k) (hd : ci < e0 ∧ e0 < e1 ∧ e1 < e2 ∧ e2 < e3 ∧ e3 < e4 ∧ e4 < e5 ∧ e5 < e6 ∧ e6 < e7 ∧ e7 < e8 ∧ e8 < N) (hA : P.underlying tA = some (.slice eA)) (hkA : (P.info? eA).map (·.size) = some K) (hf0 : fldB P g0 j0 l0 = true) (ht : Sca P tx) {tc td tf tg : TypeId} (h0 : 0 ≤ k) (hty : P.underlying ty = some .bool) (hi : i < n) (h1c : 1 < ci) (ho : off = o + i * K + l0)
    (kc : ∀ a', Sl N ci i (some ⟨p, o, none⟩) n c k a' → Q .normal a' W) :
    Code.wp P ((Code.region id #[⟨some e0, .move (.tmp 0), t0, s0, f0, none⟩, ⟨some e1, .move (.tmp ci), t1, s1, f1, none⟩, ⟨some e2, .indexAddr tA (.tmp e0) (.tmp e1), t2, s2, f2, none⟩, ⟨some e3, .fieldAddr g0 (.tmp e2) j0, t3, s3, f3, none⟩, ⟨some e4, .load tx (.tmp e3), t4, s4, f4, none⟩, ⟨some e5, .move (.tmp 1), t5, s5, f5, none⟩, ⟨some e6, .binOp .rem tc (.tmp e5) (.const (.int .i64 3)) td, t6, s6, f6, none⟩, ⟨some e7, .binOp .eql tf (.tmp e6) (.const (.int .i64 0)) tg, t7, s7, f7, none⟩, ⟨some e8, .binOp .neq ty (.tmp e4) (.tmp e7) tz, t8, s8, f8, none⟩] false).seq (Code.cond (.tmp e8) ((Code.region id' #[⟨some 4, .assign (.const (.int .i64 (-1))), t13, s13, f13, none⟩] false).seq Code.ret) Code.skip)) Q a W := by
  have hz := S.sz
  subst ho
  have hcell := hdBool H
  obtain ⟨q0, q1, q2, q3, q4, q5, q6, q7, q8, q9⟩ := hd
  refine wp_seq (wp_region_list ?_)
  refine wpl_move ?_
  rw [S.s]
  refine wpl_move ?_
  rw [show Act.eval (a.put (some e0) (.slice (some ⟨p, o, none⟩) n c)) (.tmp ci) = .int .i64 i from ((put_ne (by omega)).trans (S.hi))]
  refine wpl_index hA hkA ((put_ne (by omega)).trans (put_eq (by omega))) (put_eq (by rw [put_sz]; omega)) hi ?_
  refine wpl_fieldo (put_eq (by rw [put_sz, put_sz]; omega)) hf0 ?_
  refine wpl_loadS rfl tx (.tmp e3) rfl (put_eq (by rw [put_sz, put_sz, put_sz]; omega)) (.bool (decide (k % 3 = 0))) ht hcell ?_
  refine wpl_move ?_
  rw [show Act.eval (((((a.put (some e0) (.slice (some ⟨p, o, none⟩) n c)).put (some e1) (.int .i64 i)).put (some e2) (.pointer (some ⟨p, o + i * K, none⟩))).put (some e3) (.pointer (some ⟨p, o + i * K + l0, none⟩))).put (some e4) (.bool (decide (k % 3 = 0)))) (.tmp 1) = .int .i64 k from ((put_ne (by omega)).trans ((put_ne (by omega)).trans ((put_ne (by omega)).trans ((put_ne (by omega)).trans ((put_ne (by omega)).trans (S.hk))))))]
  refine wpl_bin (u := .int .i64 k) (v := .int .i64 3) (put_eq (by rw [put_sz, put_sz, put_sz, put_sz, put_sz]; omega)) rfl (run_rem3 W h0) ?_
  refine wpl_bin (u := .int .i64 (k % 3)) (v := .int .i64 0) (put_eq (by rw [put_sz, put_sz, put_sz, put_sz, put_sz, put_sz]; omega)) rfl (run_eq0 W) ?_
  refine wpl_bin ((put_ne (by omega)).trans ((put_ne (by omega)).trans ((put_ne (by omega)).trans (put_eq (by rw [put_sz, put_sz, put_sz, put_sz]; omega))))) (put_eq (by rw [put_sz, put_sz, put_sz, put_sz, put_sz, put_sz, put_sz]; omega)) ((neq_bool hty) _ _ W) (wpl_nil ?_)
  have S9 : Sl N ci i (some ⟨p, o, none⟩) n c k (((((((((a.put (some e0) (.slice (some ⟨p, o, none⟩) n c)).put (some e1) (.int .i64 i)).put (some e2) (.pointer (some ⟨p, o + i * K, none⟩))).put (some e3) (.pointer (some ⟨p, o + i * K + l0, none⟩))).put (some e4) (.bool (decide (k % 3 = 0)))).put (some e5) (.int .i64 k)).put (some e6) (.int .i64 (k % 3))).put (some e7) (.bool (decide (k % 3 = 0)))).put (some e8) (.bool false)) := ⟨((put_ne (by omega)).trans ((put_ne (by omega)).trans ((put_ne (by omega)).trans ((put_ne (by omega)).trans ((put_ne (by omega)).trans ((put_ne (by omega)).trans ((put_ne (by omega)).trans ((put_ne (by omega)).trans ((put_ne (by omega)).trans (S.hi)))))))))), ((put_ne (by omega)).trans ((put_ne (by omega)).trans ((put_ne (by omega)).trans ((put_ne (by omega)).trans ((put_ne (by omega)).trans ((put_ne (by omega)).trans ((put_ne (by omega)).trans ((put_ne (by omega)).trans ((put_ne (by omega)).trans (S.s)))))))))), ((put_ne (by omega)).trans ((put_ne (by omega)).trans ((put_ne (by omega)).trans ((put_ne (by omega)).trans ((put_ne (by omega)).trans ((put_ne (by omega)).trans ((put_ne (by omega)).trans ((put_ne (by omega)).trans ((put_ne (by omega)).trans (S.hk)))))))))), (put_df.trans (put_df.trans (put_df.trans (put_df.trans (put_df.trans (put_df.trans (put_df.trans (put_df.trans (put_df.trans (S.df)))))))))), (by rw [put_sz, put_sz, put_sz, put_sz, put_sz, put_sz, put_sz, put_sz, put_sz]; exact S.sz)⟩
  exact wp_cond_false (put_eq (by rw [put_sz, put_sz, put_sz, put_sz, put_sz, put_sz, put_sz, put_sz]; omega)) (wp_skip (kc _ S9))
theorem hd_c0 {e0 e1 e2 e3 e4 e5 off : Nat} {k : Int} {β : Type} {T : Mw β} {b : β} {f : FuncId} {ats : Array TypeId} (S : Sl N ci i (some ⟨p, o, none⟩) n c k a) (H : HdE T W p off b k) (hd : ci < e0 ∧ e0 < e1 ∧ e1 < e2 ∧ e2 < e3 ∧ e3 < e4 ∧ e4 < e5 ∧ e5 < N) (hA : P.underlying tA = some (.slice eA)) (hkA : (P.info? eA).map (·.size) = some K) (ht : Sca P tx) (hi : i < n) (h1c : 1 < ci) (ho : off = o + i * K)
    (hk1 : T.cd.k = 1) (hv : ∀ x, T.cntV x = T.cntF x) (hy : ∀ x k, T.ful x k → T.byv x k) (hf : Fn P f) (hC : HdF P T v1 f) (h1k : 1 ≤ k) (hkb : k + T.cntV b ≤ 4611686018427387904)
    (kc : ∀ a' V, Sl N ci i (some ⟨p, o, none⟩) n c (k + (T.cntF b : Nat)) a' → Below W.heap.size W V → Q .normal a' V) :
    Code.wp P (Code.region id #[⟨some e0, .move (.tmp 0), t0, s0, f0, none⟩, ⟨some e1, .move (.tmp ci), t1, s1, f1, none⟩, ⟨some e2, .indexAddr tA (.tmp e0) (.tmp e1), t2, s2, f2, none⟩, ⟨some e3, .load tx (.tmp e2), t3, s3, f3, none⟩, ⟨some e4, .move (.tmp 1), t4, s4, f4, none⟩, ⟨some e5, .call { callee := .value (.func f), args := #[.tmp e3, .tmp e4], argTypes := ats }, t5, s5, f5, none⟩, ⟨some 1, .assign (.tmp e5), t6, s6, f6, none⟩] false) Q a W := by
  have hz := S.sz
  subst ho
  obtain ⟨us, _, hseg, hrep, hful⟩ := H
  obtain ⟨u, rfl⟩ : ∃ u, us = [u] := by
    have hn := (T.cd.len hrep).trans hk1
    cases us with
    | nil => cases hn
    | cons u t =>
      cases t with
      | nil => exact ⟨u, rfl⟩
      | cons _ _ => simp at hn
  obtain ⟨q0, q1, q2, q3, q4, q5, q6⟩ := hd
  refine wp_region_list ?_
  refine wpl_move ?_
  rw [S.s]
  refine wpl_move ?_
  rw [show Act.eval (a.put (some e0) (.slice (some ⟨p, o, none⟩) n c)) (.tmp ci) = .int .i64 i from ((put_ne (by omega)).trans (S.hi))]
  refine wpl_index hA hkA ((put_ne (by omega)).trans (put_eq (by omega))) (put_eq (by rw [put_sz]; omega)) hi ?_
  refine wpl_loadS rfl tx (.tmp e2) rfl (put_eq (by rw [put_sz, put_sz]; omega)) u ht hseg.one ?_
  refine wpl_move ?_
  rw [show Act.eval ((((a.put (some e0) (.slice (some ⟨p, o, none⟩) n c)).put (some e1) (.int .i64 i)).put (some e2) (.pointer (some ⟨p, o + i * K, none⟩))).put (some e3) u) (.tmp 1) = .int .i64 k from ((put_ne (by omega)).trans ((put_ne (by omega)).trans ((put_ne (by omega)).trans ((put_ne (by omega)).trans (S.hk)))))]
  have ea : Act.eval (((((a.put (some e0) (.slice (some ⟨p, o, none⟩) n c)).put (some e1) (.int .i64 i)).put (some e2) (.pointer (some ⟨p, o + i * K, none⟩))).put (some e3) u).put (some e4) (.int .i64 k)) (.tmp e3) = u := ((put_ne (by omega)).trans (put_eq (by rw [put_sz, put_sz, put_sz]; omega)))
  have eb : Act.eval (((((a.put (some e0) (.slice (some ⟨p, o, none⟩) n c)).put (some e1) (.int .i64 i)).put (some e2) (.pointer (some ⟨p, o + i * K, none⟩))).put (some e3) u).put (some e4) (.int .i64 k)) (.tmp e4) = .int .i64 k := (put_eq (by rw [put_sz, put_sz, put_sz, put_sz]; omega))
  refine wpl_call hf (R := fun e V => e = .returned (.int .i64 (k + T.cntV b)) ∧ Below W.heap.size W V) ?_ ?_
  · have hc := hC [u] b W k hrep (hy b k hful) h1k hkb
    simpa only [List.map_toArray, List.map_cons, List.map_nil, ea, eb, v1, List.headD_cons] using hc
  rintro e V ⟨rfl, hbl⟩
  refine ⟨_, rfl, ?_⟩
  refine wpl_assign (wpl_nil ?_)
  rw [show Act.eval ((((((a.put (some e0) (.slice (some ⟨p, o, none⟩) n c)).put (some e1) (.int .i64 i)).put (some e2) (.pointer (some ⟨p, o + i * K, none⟩))).put (some e3) u).put (some e4) (.int .i64 k)).put (some e5) (.int .i64 (k + T.cntV b))) (.tmp e5) = .int .i64 (k + T.cntV b) from (put_eq (by rw [put_sz, put_sz, put_sz, put_sz, put_sz]; omega))]
  have S9 : Sl N ci i (some ⟨p, o, none⟩) n c k ((((((a.put (some e0) (.slice (some ⟨p, o, none⟩) n c)).put (some e1) (.int .i64 i)).put (some e2) (.pointer (some ⟨p, o + i * K, none⟩))).put (some e3) u).put (some e4) (.int .i64 k)).put (some e5) (.int .i64 (k + T.cntV b))) := ⟨((put_ne (by omega)).trans ((put_ne (by omega)).trans ((put_ne (by omega)).trans ((put_ne (by omega)).trans ((put_ne (by omega)).trans ((put_ne (by omega)).trans (S.hi))))))), ((put_ne (by omega)).trans ((put_ne (by omega)).trans ((put_ne (by omega)).trans ((put_ne (by omega)).trans ((put_ne (by omega)).trans ((put_ne (by omega)).trans (S.s))))))), ((put_ne (by omega)).trans ((put_ne (by omega)).trans ((put_ne (by omega)).trans ((put_ne (by omega)).trans ((put_ne (by omega)).trans ((put_ne (by omega)).trans (S.hk))))))), (put_df.trans (put_df.trans (put_df.trans (put_df.trans (put_df.trans (put_df.trans (S.df))))))), (by rw [put_sz, put_sz, put_sz, put_sz, put_sz, put_sz]; exact S.sz)⟩
  rw [← hv] at kc
  exact kc _ V (S9.set h1c (by omega) _) hbl
theorem hd_c1 {g0 : TypeId} {j0 l0 : Nat} {e0 e1 e2 e3 e4 e5 e6 off : Nat} {k : Int} {β : Type} {T : Mw β} {b : β} {f : FuncId} {ats : Array TypeId} (S : Sl N ci i (some ⟨p, o, none⟩) n c k a) (H : HdE T W p off b k) (hd : ci < e0 ∧ e0 < e1 ∧ e1 < e2 ∧ e2 < e3 ∧ e3 < e4 ∧ e4 < e5 ∧ e5 < e6 ∧ e6 < N) (hA : P.underlying tA = some (.slice eA)) (hkA : (P.info? eA).map (·.size) = some K) (hf0 : fldB P g0 j0 l0 = true) (ht : Sca P tx) (hi : i < n) (h1c : 1 < ci) (ho : off = o + i * K + l0)
    (hk1 : T.cd.k = 1) (hv : ∀ x, T.cntV x = T.cntF x) (hy : ∀ x k, T.ful x k → T.byv x k) (hf : Fn P f) (hC : HdF P T v1 f) (h1k : 1 ≤ k) (hkb : k + T.cntV b ≤ 4611686018427387904)
    (kc : ∀ a' V, Sl N ci i (some ⟨p, o, none⟩) n c (k + (T.cntF b : Nat)) a' → Below W.heap.size W V → Q .normal a' V) :
    Code.wp P (Code.region id #[⟨some e0, .move (.tmp 0), t0, s0, f0, none⟩, ⟨some e1, .move (.tmp ci), t1, s1, f1, none⟩, ⟨some e2, .indexAddr tA (.tmp e0) (.tmp e1), t2, s2, f2, none⟩, ⟨some e3, .fieldAddr g0 (.tmp e2) j0, t3, s3, f3, none⟩, ⟨some e4, .load tx (.tmp e3), t4, s4, f4, none⟩, ⟨some e5, .move (.tmp 1), t5, s5, f5, none⟩, ⟨some e6, .call { callee := .value (.func f), args := #[.tmp e4, .tmp e5], argTypes := ats }, t6, s6, f6, none⟩, ⟨some 1, .assign (.tmp e6), t7, s7, f7, none⟩] false) Q a W := by
  have hz := S.sz
  subst ho
  obtain ⟨us, _, hseg, hrep, hful⟩ := H
  obtain ⟨u, rfl⟩ : ∃ u, us = [u] := by
    have hn := (T.cd.len hrep).trans hk1
    cases us with
    | nil => cases hn
    | cons u t =>
      cases t with
      | nil => exact ⟨u, rfl⟩
      | cons _ _ => simp at hn
  obtain ⟨q0, q1, q2, q3, q4, q5, q6, q7⟩ := hd
  refine wp_region_list ?_
  refine wpl_move ?_
  rw [S.s]
  refine wpl_move ?_
  rw [show Act.eval (a.put (some e0) (.slice (some ⟨p, o, none⟩) n c)) (.tmp ci) = .int .i64 i from ((put_ne (by omega)).trans (S.hi))]
  refine wpl_index hA hkA ((put_ne (by omega)).trans (put_eq (by omega))) (put_eq (by rw [put_sz]; omega)) hi ?_
  refine wpl_fieldo (put_eq (by rw [put_sz, put_sz]; omega)) hf0 ?_
  refine wpl_loadS rfl tx (.tmp e3) rfl (put_eq (by rw [put_sz, put_sz, put_sz]; omega)) u ht hseg.one ?_
  refine wpl_move ?_
  rw [show Act.eval (((((a.put (some e0) (.slice (some ⟨p, o, none⟩) n c)).put (some e1) (.int .i64 i)).put (some e2) (.pointer (some ⟨p, o + i * K, none⟩))).put (some e3) (.pointer (some ⟨p, o + i * K + l0, none⟩))).put (some e4) u) (.tmp 1) = .int .i64 k from ((put_ne (by omega)).trans ((put_ne (by omega)).trans ((put_ne (by omega)).trans ((put_ne (by omega)).trans ((put_ne (by omega)).trans (S.hk))))))]
  have ea : Act.eval ((((((a.put (some e0) (.slice (some ⟨p, o, none⟩) n c)).put (some e1) (.int .i64 i)).put (some e2) (.pointer (some ⟨p, o + i * K, none⟩))).put (some e3) (.pointer (some ⟨p, o + i * K + l0, none⟩))).put (some e4) u).put (some e5) (.int .i64 k)) (.tmp e4) = u := ((put_ne (by omega)).trans (put_eq (by rw [put_sz, put_sz, put_sz, put_sz]; omega)))
  have eb : Act.eval ((((((a.put (some e0) (.slice (some ⟨p, o, none⟩) n c)).put (some e1) (.int .i64 i)).put (some e2) (.pointer (some ⟨p, o + i * K, none⟩))).put (some e3) (.pointer (some ⟨p, o + i * K + l0, none⟩))).put (some e4) u).put (some e5) (.int .i64 k)) (.tmp e5) = .int .i64 k := (put_eq (by rw [put_sz, put_sz, put_sz, put_sz, put_sz]; omega))
  refine wpl_call hf (R := fun e V => e = .returned (.int .i64 (k + T.cntV b)) ∧ Below W.heap.size W V) ?_ ?_
  · have hc := hC [u] b W k hrep (hy b k hful) h1k hkb
    simpa only [List.map_toArray, List.map_cons, List.map_nil, ea, eb, v1, List.headD_cons] using hc
  rintro e V ⟨rfl, hbl⟩
  refine ⟨_, rfl, ?_⟩
  refine wpl_assign (wpl_nil ?_)
  rw [show Act.eval (((((((a.put (some e0) (.slice (some ⟨p, o, none⟩) n c)).put (some e1) (.int .i64 i)).put (some e2) (.pointer (some ⟨p, o + i * K, none⟩))).put (some e3) (.pointer (some ⟨p, o + i * K + l0, none⟩))).put (some e4) u).put (some e5) (.int .i64 k)).put (some e6) (.int .i64 (k + T.cntV b))) (.tmp e6) = .int .i64 (k + T.cntV b) from (put_eq (by rw [put_sz, put_sz, put_sz, put_sz, put_sz, put_sz]; omega))]
  have S9 : Sl N ci i (some ⟨p, o, none⟩) n c k (((((((a.put (some e0) (.slice (some ⟨p, o, none⟩) n c)).put (some e1) (.int .i64 i)).put (some e2) (.pointer (some ⟨p, o + i * K, none⟩))).put (some e3) (.pointer (some ⟨p, o + i * K + l0, none⟩))).put (some e4) u).put (some e5) (.int .i64 k)).put (some e6) (.int .i64 (k + T.cntV b))) := ⟨((put_ne (by omega)).trans ((put_ne (by omega)).trans ((put_ne (by omega)).trans ((put_ne (by omega)).trans ((put_ne (by omega)).trans ((put_ne (by omega)).trans ((put_ne (by omega)).trans (S.hi)))))))), ((put_ne (by omega)).trans ((put_ne (by omega)).trans ((put_ne (by omega)).trans ((put_ne (by omega)).trans ((put_ne (by omega)).trans ((put_ne (by omega)).trans ((put_ne (by omega)).trans (S.s)))))))), ((put_ne (by omega)).trans ((put_ne (by omega)).trans ((put_ne (by omega)).trans ((put_ne (by omega)).trans ((put_ne (by omega)).trans ((put_ne (by omega)).trans ((put_ne (by omega)).trans (S.hk)))))))), (put_df.trans (put_df.trans (put_df.trans (put_df.trans (put_df.trans (put_df.trans (put_df.trans (S.df)))))))), (by rw [put_sz, put_sz, put_sz, put_sz, put_sz, put_sz, put_sz]; exact S.sz)⟩
  rw [← hv] at kc
  exact kc _ V (S9.set h1c (by omega) _) hbl
theorem hd_c2 {g0 : TypeId} {j0 l0 : Nat} {g1 : TypeId} {j1 l1 : Nat} {e0 e1 e2 e3 e4 e5 e6 e7 off : Nat} {k : Int} {β : Type} {T : Mw β} {b : β} {f : FuncId} {ats : Array TypeId} (S : Sl N ci i (some ⟨p, o, none⟩) n c k a) (H : HdE T W p off b k) (hd : ci < e0 ∧ e0 < e1 ∧ e1 < e2 ∧ e2 < e3 ∧ e3 < e4 ∧ e4 < e5 ∧ e5 < e6 ∧ e6 < e7 ∧ e7 < N) (hA : P.underlying tA = some (.slice eA)) (hkA : (P.info? eA).map (·.size) = some K) (hf0 : fldB P g0 j0 l0 = true) (hf1 : fldB P g1 j1 l1 = true) (ht : Sca P tx) (hi : i < n) (h1c : 1 < ci) (ho : off = o + i * K + l0 + l1)
    (hk1 : T.cd.k = 1) (hv : ∀ x, T.cntV x = T.cntF x) (hy : ∀ x k, T.ful x k → T.byv x k) (hf : Fn P f) (hC : HdF P T v1 f) (h1k : 1 ≤ k) (hkb : k + T.cntV b ≤ 4611686018427387904)
    (kc : ∀ a' V, Sl N ci i (some ⟨p, o, none⟩) n c (k + (T.cntF b : Nat)) a' → Below W.heap.size W V → Q .normal a' V) :
    Code.wp P (Code.region id #[⟨some e0, .move (.tmp 0), t0, s0, f0, none⟩, ⟨some e1, .move (.tmp ci), t1, s1, f1, none⟩, ⟨some e2, .indexAddr tA (.tmp e0) (.tmp e1), t2, s2, f2, none⟩, ⟨some e3, .fieldAddr g0 (.tmp e2) j0, t3, s3, f3, none⟩, ⟨some e4, .fieldAddr g1 (.tmp e3) j1, t4, s4, f4, none⟩, ⟨some e5, .load tx (.tmp e4), t5, s5, f5, none⟩, ⟨some e6, .move (.tmp 1), t6, s6, f6, none⟩, ⟨some e7, .call { callee := .value (.func f), args := #[.tmp e5, .tmp e6], argTypes := ats }, t7, s7, f7, none⟩, ⟨some 1, .assign (.tmp e7), t8, s8, f8, none⟩] false) Q a W := by
  have hz := S.sz
  subst ho
  obtain ⟨us, _, hseg, hrep, hful⟩ := H
  obtain ⟨u, rfl⟩ : ∃ u, us = [u] := by
    have hn := (T.cd.len hrep).trans hk1
    cases us with
    | nil => cases hn
    | cons u t =>
      cases t with
      | nil => exact ⟨u, rfl⟩
      | cons _ _ => simp at hn
  obtain ⟨q0, q1, q2, q3, q4, q5, q6, q7, q8⟩ := hd
  refine wp_region_list ?_
  refine wpl_move ?_
  rw [S.s]
  refine wpl_move ?_
  rw [show Act.eval (a.put (some e0) (.slice (some ⟨p, o, none⟩) n c)) (.tmp ci) = .int .i64 i from ((put_ne (by omega)).trans (S.hi))]
  refine wpl_index hA hkA ((put_ne (by omega)).trans (put_eq (by omega))) (put_eq (by rw [put_sz]; omega)) hi ?_
  refine wpl_fieldo (put_eq (by rw [put_sz, put_sz]; omega)) hf0 ?_
  refine wpl_fieldo (put_eq (by rw [put_sz, put_sz, put_sz]; omega)) hf1 ?_
  refine wpl_loadS rfl tx (.tmp e4) rfl (put_eq (by rw [put_sz, put_sz, put_sz, put_sz]; omega)) u ht hseg.one ?_
  refine wpl_move ?_
  rw [show Act.eval ((((((a.put (some e0) (.slice (some ⟨p, o, none⟩) n c)).put (some e1) (.int .i64 i)).put (some e2) (.pointer (some ⟨p, o + i * K, none⟩))).put (some e3) (.pointer (some ⟨p, o + i * K + l0, none⟩))).put (some e4) (.pointer (some ⟨p, o + i * K + l0 + l1, none⟩))).put (some e5) u) (.tmp 1) = .int .i64 k from ((put_ne (by omega)).trans ((put_ne (by omega)).trans ((put_ne (by omega)).trans ((put_ne (by omega)).trans ((put_ne (by omega)).trans ((put_ne (by omega)).trans (S.hk)))))))]
  have ea : Act.eval (((((((a.put (some e0) (.slice (some ⟨p, o, none⟩) n c)).put (some e1) (.int .i64 i)).put (some e2) (.pointer (some ⟨p, o + i * K, none⟩))).put (some e3) (.pointer (some ⟨p, o + i * K + l0, none⟩))).put (some e4) (.pointer (some ⟨p, o + i * K + l0 + l1, none⟩))).put (some e5) u).put (some e6) (.int .i64 k)) (.tmp e5) = u := ((put_ne (by omega)).trans (put_eq (by rw [put_sz, put_sz, put_sz, put_sz, put_sz]; omega)))
  have eb : Act.eval (((((((a.put (some e0) (.slice (some ⟨p, o, none⟩) n c)).put (some e1) (.int .i64 i)).put (some e2) (.pointer (some ⟨p, o + i * K, none⟩))).put (some e3) (.pointer (some ⟨p, o + i * K + l0, none⟩))).put (some e4) (.pointer (some ⟨p, o + i * K + l0 + l1, none⟩))).put (some e5) u).put (some e6) (.int .i64 k)) (.tmp e6) = .int .i64 k := (put_eq (by rw [put_sz, put_sz, put_sz, put_sz, put_sz, put_sz]; omega))
  refine wpl_call hf (R := fun e V => e = .returned (.int .i64 (k + T.cntV b)) ∧ Below W.heap.size W V) ?_ ?_
  · have hc := hC [u] b W k hrep (hy b k hful) h1k hkb
    simpa only [List.map_toArray, List.map_cons, List.map_nil, ea, eb, v1, List.headD_cons] using hc
  rintro e V ⟨rfl, hbl⟩
  refine ⟨_, rfl, ?_⟩
  refine wpl_assign (wpl_nil ?_)
  rw [show Act.eval ((((((((a.put (some e0) (.slice (some ⟨p, o, none⟩) n c)).put (some e1) (.int .i64 i)).put (some e2) (.pointer (some ⟨p, o + i * K, none⟩))).put (some e3) (.pointer (some ⟨p, o + i * K + l0, none⟩))).put (some e4) (.pointer (some ⟨p, o + i * K + l0 + l1, none⟩))).put (some e5) u).put (some e6) (.int .i64 k)).put (some e7) (.int .i64 (k + T.cntV b))) (.tmp e7) = .int .i64 (k + T.cntV b) from (put_eq (by rw [put_sz, put_sz, put_sz, put_sz, put_sz, put_sz, put_sz]; omega))]
  have S9 : Sl N ci i (some ⟨p, o, none⟩) n c k ((((((((a.put (some e0) (.slice (some ⟨p, o, none⟩) n c)).put (some e1) (.int .i64 i)).put (some e2) (.pointer (some ⟨p, o + i * K, none⟩))).put (some e3) (.pointer (some ⟨p, o + i * K + l0, none⟩))).put (some e4) (.pointer (some ⟨p, o + i * K + l0 + l1, none⟩))).put (some e5) u).put (some e6) (.int .i64 k)).put (some e7) (.int .i64 (k + T.cntV b))) := ⟨((put_ne (by omega)).trans ((put_ne (by omega)).trans ((put_ne (by omega)).trans ((put_ne (by omega)).trans ((put_ne (by omega)).trans ((put_ne (by omega)).trans ((put_ne (by omega)).trans ((put_ne (by omega)).trans (S.hi))))))))), ((put_ne (by omega)).trans ((put_ne (by omega)).trans ((put_ne (by omega)).trans ((put_ne (by omega)).trans ((put_ne (by omega)).trans ((put_ne (by omega)).trans ((put_ne (by omega)).trans ((put_ne (by omega)).trans (S.s))))))))), ((put_ne (by omega)).trans ((put_ne (by omega)).trans ((put_ne (by omega)).trans ((put_ne (by omega)).trans ((put_ne (by omega)).trans ((put_ne (by omega)).trans ((put_ne (by omega)).trans ((put_ne (by omega)).trans (S.hk))))))))), (put_df.trans (put_df.trans (put_df.trans (put_df.trans (put_df.trans (put_df.trans (put_df.trans (put_df.trans (S.df))))))))), (by rw [put_sz, put_sz, put_sz, put_sz, put_sz, put_sz, put_sz, put_sz]; exact S.sz)⟩
  rw [← hv] at kc
  exact kc _ V (S9.set h1c (by omega) _) hbl
theorem hd_c3 {g0 : TypeId} {j0 l0 : Nat} {g1 : TypeId} {j1 l1 : Nat} {g2 : TypeId} {j2 l2 : Nat} {e0 e1 e2 e3 e4 e5 e6 e7 e8 off : Nat} {k : Int} {β : Type} {T : Mw β} {b : β} {f : FuncId} {ats : Array TypeId} (S : Sl N ci i (some ⟨p, o, none⟩) n c k a) (H : HdE T W p off b k) (hd : ci < e0 ∧ e0 < e1 ∧ e1 < e2 ∧ e2 < e3 ∧ e3 < e4 ∧ e4 < e5 ∧ e5 < e6 ∧ e6 < e7 ∧ e7 < e8 ∧ e8 < N) (hA : P.underlying tA = some (.slice eA)) (hkA : (P.info? eA).map (·.size) = some K) (hf0 : fldB P g0 j0 l0 = true) (hf1 : fldB P g1 j1 l1 = true) (hf2 : fldB P g2 j2 l2 = true) (ht : Sca P tx) (hi : i < n) (h1c : 1 < ci) (ho : off = o + i * K + l0 + l1 + l2)
    (hk1 : T.cd.k = 1) (hv : ∀ x, T.cntV x = T.cntF x) (hy : ∀ x k, T.ful x k → T.byv x k) (hf : Fn P f) (hC : HdF P T v1 f) (h1k : 1 ≤ k) (hkb : k + T.cntV b ≤ 4611686018427387904)
    (kc : ∀ a' V, Sl N ci i (some ⟨p, o, none⟩) n c (k + (T.cntF b : Nat)) a' → Below W.heap.size W V → Q .normal a' V) :
    Code.wp P (Code.region id #[⟨some e0, .move (.tmp 0), t0, s0, f0, none⟩, ⟨some e1, .move (.tmp ci), t1, s1, f1, none⟩, ⟨some e2, .indexAddr tA (.tmp e0) (.tmp e1), t2, s2, f2, none⟩, ⟨some e3, .fieldAddr g0 (.tmp e2) j0, t3, s3, f3, none⟩, ⟨some e4, .fieldAddr g1 (.tmp e3) j1, t4, s4, f4, none⟩, ⟨some e5, .fieldAddr g2 (.tmp e4) j2, t5, s5, f5, none⟩, ⟨some e6, .load tx (.tmp e5), t6, s6, f6, none⟩, ⟨some e7, .move (.tmp 1), t7, s7, f7, none⟩, ⟨some e8, .call { callee := .value (.func f), args := #[.tmp e6, .tmp e7], argTypes := ats }, t8, s8, f8, none⟩, ⟨some 1, .assign (.tmp e8), t9, s9, f9, none⟩] false) Q a W := by
  have hz := S.sz
  subst ho
  obtain ⟨us, _, hseg, hrep, hful⟩ := H
  obtain ⟨u, rfl⟩ : ∃ u, us = [u] := by
    have hn := (T.cd.len hrep).trans hk1
    cases us with
    | nil => cases hn
    | cons u t =>
      cases t with
      | nil => exact ⟨u, rfl⟩
      | cons _ _ => simp at hn
  obtain ⟨q0, q1, q2, q3, q4, q5, q6, q7, q8, q9⟩ := hd
  refine wp_region_list ?_
  refine wpl_move ?_
  rw [S.s]
  refine wpl_move ?_
  rw [show Act.eval (a.put (some e0) (.slice (some ⟨p, o, none⟩) n c)) (.tmp ci) = .int .i64 i from ((put_ne (by omega)).trans (S.hi))]
  refine wpl_index hA hkA ((put_ne (by omega)).trans (put_eq (by omega))) (put_eq (by rw [put_sz]; omega)) hi ?_
  refine wpl_fieldo (put_eq (by rw [put_sz, put_sz]; omega)) hf0 ?_
  refine wpl_fieldo (put_eq (by rw [put_sz, put_sz, put_sz]; omega)) hf1 ?_
  refine wpl_fieldo (put_eq (by rw [put_sz, put_sz, put_sz, put_sz]; omega)) hf2 ?_
  refine wpl_loadS rfl tx (.tmp e5) rfl (put_eq (by rw [put_sz, put_sz, put_sz, put_sz, put_sz]; omega)) u ht hseg.one ?_
  refine wpl_move ?_
  rw [show Act.eval (((((((a.put (some e0) (.slice (some ⟨p, o, none⟩) n c)).put (some e1) (.int .i64 i)).put (some e2) (.pointer (some ⟨p, o + i * K, none⟩))).put (some e3) (.pointer (some ⟨p, o + i * K + l0, none⟩))).put (some e4) (.pointer (some ⟨p, o + i * K + l0 + l1, none⟩))).put (some e5) (.pointer (some ⟨p, o + i * K + l0 + l1 + l2, none⟩))).put (some e6) u) (.tmp 1) = .int .i64 k from ((put_ne (by omega)).trans ((put_ne (by omega)).trans ((put_ne (by omega)).trans ((put_ne (by omega)).trans ((put_ne (by omega)).trans ((put_ne (by omega)).trans ((put_ne (by omega)).trans (S.hk))))))))]
  have ea : Act.eval ((((((((a.put (some e0) (.slice (some ⟨p, o, none⟩) n c)).put (some e1) (.int .i64 i)).put (some e2) (.pointer (some ⟨p, o + i * K, none⟩))).put (some e3) (.pointer (some ⟨p, o + i * K + l0, none⟩))).put (some e4) (.pointer (some ⟨p, o + i * K + l0 + l1, none⟩))).put (some e5) (.pointer (some ⟨p, o + i * K + l0 + l1 + l2, none⟩))).put (some e6) u).put (some e7) (.int .i64 k)) (.tmp e6) = u := ((put_ne (by omega)).trans (put_eq (by rw [put_sz, put_sz, put_sz, put_sz, put_sz, put_sz]; omega)))
  have eb : Act.eval ((((((((a.put (some e0) (.slice (some ⟨p, o, none⟩) n c)).put (some e1) (.int .i64 i)).put (some e2) (.pointer (some ⟨p, o + i * K, none⟩))).put (some e3) (.pointer (some ⟨p, o + i * K + l0, none⟩))).put (some e4) (.pointer (some ⟨p, o + i * K + l0 + l1, none⟩))).put (some e5) (.pointer (some ⟨p, o + i * K + l0 + l1 + l2, none⟩))).put (some e6) u).put (some e7) (.int .i64 k)) (.tmp e7) = .int .i64 k := (put_eq (by rw [put_sz, put_sz, put_sz, put_sz, put_sz, put_sz, put_sz]; omega))
  refine wpl_call hf (R := fun e V => e = .returned (.int .i64 (k + T.cntV b)) ∧ Below W.heap.size W V) ?_ ?_
  · have hc := hC [u] b W k hrep (hy b k hful) h1k hkb
    simpa only [List.map_toArray, List.map_cons, List.map_nil, ea, eb, v1, List.headD_cons] using hc
  rintro e V ⟨rfl, hbl⟩
  refine ⟨_, rfl, ?_⟩
  refine wpl_assign (wpl_nil ?_)
  rw [show Act.eval (((((((((a.put (some e0) (.slice (some ⟨p, o, none⟩) n c)).put (some e1) (.int .i64 i)).put (some e2) (.pointer (some ⟨p, o + i * K, none⟩))).put (some e3) (.pointer (some ⟨p, o + i * K + l0, none⟩))).put (some e4) (.pointer (some ⟨p, o + i * K + l0 + l1, none⟩))).put (some e5) (.pointer (some ⟨p, o + i * K + l0 + l1 + l2, none⟩))).put (some e6) u).put (some e7) (.int .i64 k)).put (some e8) (.int .i64 (k + T.cntV b))) (.tmp e8) = .int .i64 (k + T.cntV b) from (put_eq (by rw [put_sz, put_sz, put_sz, put_sz, put_sz, put_sz, put_sz, put_sz]; omega))]
  have S9 : Sl N ci i (some ⟨p, o, none⟩) n c k (((((((((a.put (some e0) (.slice (some ⟨p, o, none⟩) n c)).put (some e1) (.int .i64 i)).put (some e2) (.pointer (some ⟨p, o + i * K, none⟩))).put (some e3) (.pointer (some ⟨p, o + i * K + l0, none⟩))).put (some e4) (.pointer (some ⟨p, o + i * K + l0 + l1, none⟩))).put (some e5) (.pointer (some ⟨p, o + i * K + l0 + l1 + l2, none⟩))).put (some e6) u).put (some e7) (.int .i64 k)).put (some e8) (.int .i64 (k + T.cntV b))) := ⟨((put_ne (by omega)).trans ((put_ne (by omega)).trans ((put_ne (by omega)).trans ((put_ne (by omega)).trans ((put_ne (by omega)).trans ((put_ne (by omega)).trans ((put_ne (by omega)).trans ((put_ne (by omega)).trans ((put_ne (by omega)).trans (S.hi)))))))))), ((put_ne (by omega)).trans ((put_ne (by omega)).trans ((put_ne (by omega)).trans ((put_ne (by omega)).trans ((put_ne (by omega)).trans ((put_ne (by omega)).trans ((put_ne (by omega)).trans ((put_ne (by omega)).trans ((put_ne (by omega)).trans (S.s)))))))))), ((put_ne (by omega)).trans ((put_ne (by omega)).trans ((put_ne (by omega)).trans ((put_ne (by omega)).trans ((put_ne (by omega)).trans ((put_ne (by omega)).trans ((put_ne (by omega)).trans ((put_ne (by omega)).trans ((put_ne (by omega)).trans (S.hk)))))))))), (put_df.trans (put_df.trans (put_df.trans (put_df.trans (put_df.trans (put_df.trans (put_df.trans (put_df.trans (put_df.trans (S.df)))))))))), (by rw [put_sz, put_sz, put_sz, put_sz, put_sz, put_sz, put_sz, put_sz, put_sz]; exact S.sz)⟩
  rw [← hv] at kc
  exact kc _ V (S9.set h1c (by omega) _) hbl
theorem hd_c4 {g0 : TypeId} {j0 l0 : Nat} {g1 : TypeId} {j1 l1 : Nat} {g2 : TypeId} {j2 l2 : Nat} {g3 : TypeId} {j3 l3 : Nat} {e0 e1 e2 e3 e4 e5 e6 e7 e8 e9 off : Nat} {k : Int} {β : Type} {T : Mw β} {b : β} {f : FuncId} {ats : Array TypeId} (S : Sl N ci i (some ⟨p, o, none⟩) n c k a) (H : HdE T W p off b k) (hd : ci < e0 ∧ e0 < e1 ∧ e1 < e2 ∧ e2 < e3 ∧ e3 < e4 ∧ e4 < e5 ∧ e5 < e6 ∧ e6 < e7 ∧ e7 < e8 ∧ e8 < e9 ∧ e9 < N) (hA : P.underlying tA = some (.slice eA)) (hkA : (P.info? eA).map (·.size) = some K) (hf0 : fldB P g0 j0 l0 = true) (hf1 : fldB P g1 j1 l1 = true) (hf2 : fldB P g2 j2 l2 = true) (hf3 : fldB P g3 j3 l3 = true) (ht : Sca P tx) (hi : i < n) (h1c : 1 < ci) (ho : off = o + i * K + l0 + l1 + l2 + l3)
    (hk1 : T.cd.k = 1) (hv : ∀ x, T.cntV x = T.cntF x) (hy : ∀ x k, T.ful x k → T.byv x k) (hf : Fn P f) (hC : HdF P T v1 f) (h1k : 1 ≤ k) (hkb : k + T.cntV b ≤ 4611686018427387904)
    (kc : ∀ a' V, Sl N ci i (some ⟨p, o, none⟩) n c (k + (T.cntF b : Nat)) a' → Below W.heap.size W V → Q .normal a' V) :
    Code.wp P (Code.region id #[⟨some e0, .move (.tmp 0), t0, s0, f0, none⟩, ⟨some e1, .move (.tmp ci), t1, s1, f1, none⟩, ⟨some e2, .indexAddr tA (.tmp e0) (.tmp e1), t2, s2, f2, none⟩, ⟨some e3, .fieldAddr g0 (.tmp e2) j0, t3, s3, f3, none⟩, ⟨some e4, .fieldAddr g1 (.tmp e3) j1, t4, s4, f4, none⟩, ⟨some e5, .fieldAddr g2 (.tmp e4) j2, t5, s5, f5, none⟩, ⟨some e6, .fieldAddr g3 (.tmp e5) j3, t6, s6, f6, none⟩, ⟨some e7, .load tx (.tmp e6), t7, s7, f7, none⟩, ⟨some e8, .move (.tmp 1), t8, s8, f8, none⟩, ⟨some e9, .call { callee := .value (.func f), args := #[.tmp e7, .tmp e8], argTypes := ats }, t9, s9, f9, none⟩, ⟨some 1, .assign (.tmp e9), t10, s10, f10, none⟩] false) Q a W := by
  have hz := S.sz
  subst ho
  obtain ⟨us, _, hseg, hrep, hful⟩ := H
  obtain ⟨u, rfl⟩ : ∃ u, us = [u] := by
    have hn := (T.cd.len hrep).trans hk1
    cases us with
    | nil => cases hn
    | cons u t =>
      cases t with
      | nil => exact ⟨u, rfl⟩
      | cons _ _ => simp at hn
  obtain ⟨q0, q1, q2, q3, q4, q5, q6, q7, q8, q9, q10⟩ := hd
  refine wp_region_list ?_
  refine wpl_move ?_
  rw [S.s]
  refine wpl_move ?_
  rw [show Act.eval (a.put (some e0) (.slice (some ⟨p, o, none⟩) n c)) (.tmp ci) = .int .i64 i from ((put_ne (by omega)).trans (S.hi))]
  refine wpl_index hA hkA ((put_ne (by omega)).trans (put_eq (by omega))) (put_eq (by rw [put_sz]; omega)) hi ?_
  refine wpl_fieldo (put_eq (by rw [put_sz, put_sz]; omega)) hf0 ?_
  refine wpl_fieldo (put_eq (by rw [put_sz, put_sz, put_sz]; omega)) hf1 ?_
  refine wpl_fieldo (put_eq (by rw [put_sz, put_sz, put_sz, put_sz]; omega)) hf2 ?_
  refine wpl_fieldo (put_eq (by rw [put_sz, put_sz, put_sz, put_sz, put_sz]; omega)) hf3 ?_
  refine wpl_loadS rfl tx (.tmp e6) rfl (put_eq (by rw [put_sz, put_sz, put_sz, put_sz, put_sz, put_sz]; omega)) u ht hseg.one ?_
  refine wpl_move ?_
  rw [show Act.eval ((((((((a.put (some e0) (.slice (some ⟨p, o, none⟩) n c)).put (some e1) (.int .i64 i)).put (some e2) (.pointer (some ⟨p, o + i * K, none⟩))).put (some e3) (.pointer (some ⟨p, o + i * K + l0, none⟩))).put (some e4) (.pointer (some ⟨p, o + i * K + l0 + l1, none⟩))).put (some e5) (.pointer (some ⟨p, o + i * K + l0 + l1 + l2, none⟩))).put (some e6) (.pointer (some ⟨p, o + i * K + l0 + l1 + l2 + l3, none⟩))).put (some e7) u) (.tmp 1) = .int .i64 k from ((put_ne (by omega)).trans ((put_ne (by omega)).trans ((put_ne (by omega)).trans ((put_ne (by omega)).trans ((put_ne (by omega)).trans ((put_ne (by omega)).trans ((put_ne (by omega)).trans ((put_ne (by omega)).trans (S.hk)))))))))]
  have ea : Act.eval (((((((((a.put (some e0) (.slice (some ⟨p, o, none⟩) n c)).put (some e1) (.int .i64 i)).put (some e2) (.pointer (some ⟨p, o + i * K, none⟩))).put (some e3) (.pointer (some ⟨p, o + i * K + l0, none⟩))).put (some e4) (.pointer (some ⟨p, o + i * K + l0 + l1, none⟩))).put (some e5) (.pointer (some ⟨p, o + i * K + l0 + l1 + l2, none⟩))).put (some e6) (.pointer (some ⟨p, o + i * K + l0 + l1 + l2 + l3, none⟩))).put (some e7) u).put (some e8) (.int .i64 k)) (.tmp e7) = u := ((put_ne (by omega)).trans (put_eq (by rw [put_sz, put_sz, put_sz, put_sz, put_sz, put_sz, put_sz]; omega)))
  have eb : Act.eval (((((((((a.put (some e0) (.slice (some ⟨p, o, none⟩) n c)).put (some e1) (.int .i64 i)).put (some e2) (.pointer (some ⟨p, o + i * K, none⟩))).put (some e3) (.pointer (some ⟨p, o + i * K + l0, none⟩))).put (some e4) (.pointer (some ⟨p, o + i * K + l0 + l1, none⟩))).put (some e5) (.pointer (some ⟨p, o + i * K + l0 + l1 + l2, none⟩))).put (some e6) (.pointer (some ⟨p, o + i * K + l0 + l1 + l2 + l3, none⟩))).put (some e7) u).put (some e8) (.int .i64 k)) (.tmp e8) = .int .i64 k := (put_eq (by rw [put_sz, put_sz, put_sz, put_sz, put_sz, put_sz, put_sz, put_sz]; omega))
  refine wpl_call hf (R := fun e V => e = .returned (.int .i64 (k + T.cntV b)) ∧ Below W.heap.size W V) ?_ ?_
  · have hc := hC [u] b W k hrep (hy b k hful) h1k hkb
    simpa only [List.map_toArray, List.map_cons, List.map_nil, ea, eb, v1, List.headD_cons] using hc
  rintro e V ⟨rfl, hbl⟩
  refine ⟨_, rfl, ?_⟩
  refine wpl_assign (wpl_nil ?_)
  rw [show Act.eval ((((((((((a.put (some e0) (.slice (some ⟨p, o, none⟩) n c)).put (some e1) (.int .i64 i)).put (some e2) (.pointer (some ⟨p, o + i * K, none⟩))).put (some e3) (.pointer (some ⟨p, o + i * K + l0, none⟩))).put (some e4) (.pointer (some ⟨p, o + i * K + l0 + l1, none⟩))).put (some e5) (.pointer (some ⟨p, o + i * K + l0 + l1 + l2, none⟩))).put (some e6) (.pointer (some ⟨p, o + i * K + l0 + l1 + l2 + l3, none⟩))).put (some e7) u).put (some e8) (.int .i64 k)).put (some e9) (.int .i64 (k + T.cntV b))) (.tmp e9) = .int .i64 (k + T.cntV b) from (put_eq (by rw [put_sz, put_sz, put_sz, put_sz, put_sz, put_sz, put_sz, put_sz, put_sz]; omega))]
  have S9 : Sl N ci i (some ⟨p, o, none⟩) n c k ((((((((((a.put (some e0) (.slice (some ⟨p, o, none⟩) n c)).put (some e1) (.int .i64 i)).put (some e2) (.pointer (some ⟨p, o + i * K, none⟩))).put (some e3) (.pointer (some ⟨p, o + i * K + l0, none⟩))).put (some e4) (.pointer (some ⟨p, o + i * K + l0 + l1, none⟩))).put (some e5) (.pointer (some ⟨p, o + i * K + l0 + l1 + l2, none⟩))).put (some e6) (.pointer (some ⟨p, o + i * K + l0 + l1 + l2 + l3, none⟩))).put (some e7) u).put (some e8) (.int .i64 k)).put (some e9) (.int .i64 (k + T.cntV b))) := ⟨((put_ne (by omega)).trans ((put_ne (by omega)).trans ((put_ne (by omega)).trans ((put_ne (by omega)).trans ((put_ne (by omega)).trans ((put_ne (by omega)).trans ((put_ne (by omega)).trans ((put_ne (by omega)).trans ((put_ne (by omega)).trans ((put_ne (by omega)).trans (S.hi))))))))))), ((put_ne (by omega)).trans ((put_ne (by omega)).trans ((put_ne (by omega)).trans ((put_ne (by omega)).trans ((put_ne (by omega)).trans ((put_ne (by omega)).trans ((put_ne (by omega)).trans ((put_ne (by omega)).trans ((put_ne (by omega)).trans ((put_ne (by omega)).trans (S.s))))))))))), ((put_ne (by omega)).trans ((put_ne (by omega)).trans ((put_ne (by omega)).trans ((put_ne (by omega)).trans ((put_ne (by omega)).trans ((put_ne (by omega)).trans ((put_ne (by omega)).trans ((put_ne (by omega)).trans ((put_ne (by omega)).trans ((put_ne (by omega)).trans (S.hk))))))))))), (put_df.trans (put_df.trans (put_df.trans (put_df.trans (put_df.trans (put_df.trans (put_df.trans (put_df.trans (put_df.trans (put_df.trans (S.df))))))))))), (by rw [put_sz, put_sz, put_sz, put_sz, put_sz, put_sz, put_sz, put_sz, put_sz, put_sz]; exact S.sz)⟩
  rw [← hv] at kc
  exact kc _ V (S9.set h1c (by omega) _) hbl
theorem hd_a0 {u0 u1 u2 u3 u4 u5 u6 u7 u8 : TypeId} {v0 v1' v2 v3 v4 v5 v6 v7 v8 : String} {w0 w1 w2 w3 w4 w5 w6 w7 w8 : Array Edge} {ti tj tk tm tk' tm' tR eR ty tz : TypeId} {r2 r3 r4 bq0 bq1 id' id'' cj a0 a1 b0 b1 i0 i1 m off e0 e1 e2 e3 e4 e5 e6 e7 : Nat} {k : Int} {b : List Int} (S : Sl N ci i (some ⟨p, o, none⟩) n c k a) (H : HdE (mArr m) W p off b k) (hd : ci < cj ∧ cj < a0 ∧ a0 < a1 ∧ a1 < b0 ∧ b0 < b1 ∧ b1 < e0 ∧ e0 < e1 ∧ e1 < e2 ∧ e2 < e3 ∧ e3 < e4 ∧ e4 < e5 ∧ e5 < e6 ∧ e6 < e7 ∧ e7 < i0 ∧ i0 < i1 ∧ i1 < N) (hA : P.underlying tA = some (.slice eA)) (hkA : (P.info? eA).map (·.size) = some K) (hR : P.underlying tR = some (.array m eR)) (hkR : (P.info? eR).map (·.size) = some 1) (ht : Sca P tx) (hm0 : m < 1000000) (hk0 : 0 ≤ k) (hk1 : k ≤ 4611686018427387904) (hi : i < n) (h1c : 1 < ci) (ho : off = o + i * K)
    (kc : ∀ a', Sl N ci i (some ⟨p, o, none⟩) n c (k + (m : Nat)) a' → Q .normal a' W) :
    Code.wp P ((Code.region r2 #[⟨some cj, .assign (.const (.int .i64 0)), u3, v3, w3, none⟩] false).seq (Code.block bq0 (Code.loop
      (((Code.region r3 #[⟨some a0, .move (.tmp cj), u4, v4, w4, none⟩, ⟨some a1, .binOp .lss ti (.tmp a0) (.const (.int .i64 m)) tj, u5, v5, w5, none⟩] false).seq (Code.cond (.tmp a1) Code.skip (Code.exit bq0))).seq
        ((Code.block bq1 (((Code.region id #[⟨some e0, .move (.tmp 0), t0, s0, f0, none⟩, ⟨some e1, .move (.tmp ci), t1, s1, f1, none⟩, ⟨some e2, .move (.tmp cj), t2, s2, f2, none⟩, ⟨some e3, .indexAddr tA (.tmp e0) (.tmp e1), t3, s3, f3, none⟩, ⟨some e4, .indexAddr tR (.tmp e3) (.tmp e2), t4, s4, f4, none⟩, ⟨some e5, .load tx (.tmp e4), t5, s5, f5, none⟩, ⟨some e6, .move (.tmp 1), t6, s6, f6, none⟩, ⟨some e7, .binOp .neq ty (.tmp e5) (.tmp e6) tz, t7, s7, f7, none⟩] false).seq (Code.cond (.tmp e7) ((Code.region id' #[⟨some 4, .assign (.const (.int .i64 (-1))), t13, s13, f13, none⟩] false).seq Code.ret) Code.skip)).seq (Code.region id'' #[⟨some i0, .move (.tmp 1), u0, v0, w0, none⟩, ⟨some i1, .binOp .add tk' (.tmp i0) (.const (.int .i64 1)) tm', u1, v1', w1, none⟩, ⟨some 1, .assign (.tmp i1), u2, v2, w2, none⟩] false))).seq (Code.region r4 #[⟨some b0, .move (.tmp cj), u6, v6, w6, none⟩, ⟨some b1, .binOp .add tk (.tmp b0) (.const (.int .i64 1)) tm, u7, v7, w7, none⟩, ⟨some cj, .assign (.tmp b1), u8, v8, w8, none⟩] false)))))) Q a W := by
  have hz := S.sz
  subst ho
  obtain ⟨q0, q1, q2, q3, q4, q5, q6, q7, q8, q9, q10, q11, q12, q13, q14, q15⟩ := hd
  refine arx_loop (m := m) (cj := cj) (N := N) (X := fun j a => Sl N ci i (some ⟨p, o, none⟩) n c (k + (j : Nat)) a) (D := fun _ V => V = W) (fun i a t v h ht => h.put h1c (by omega) v) (fun i a v h => h.put h1c q0 v) ⟨q1, q2, q3, q4, by omega⟩ (by omega) (by rw [show k + ((0 : Nat) : Int) = k by omega]; exact S) rfl S.df hz ?_ ?_
  · intro j a W' hj G Q' kq
    have S := G.x
    have hz := G.sz
    have hD : W = W' := (show W' = W from G.d).symm
    subst hD
    have hcell := hdArr H j hj
    refine wp_seq ?_
    refine wp_seq (wp_region_list ?_)
    refine wpl_move ?_
    rw [S.s]
    refine wpl_move ?_
    rw [show Act.eval (a.put (some e0) (.slice (some ⟨p, o, none⟩) n c)) (.tmp ci) = .int .i64 i from ((put_ne (by omega)).trans (S.hi))]
    refine wpl_move ?_
    rw [show Act.eval ((a.put (some e0) (.slice (some ⟨p, o, none⟩) n c)).put (some e1) (.int .i64 i)) (.tmp cj) = .int .i64 j from ((put_ne (by omega)).trans ((put_ne (by omega)).trans (G.hi)))]
    refine wpl_index hA hkA ((put_ne (by omega)).trans ((put_ne (by omega)).trans (put_eq (by omega)))) ((put_ne (by omega)).trans (put_eq (by rw [put_sz]; omega))) hi ?_
    refine wpl_indexAo hR hkR (put_eq (by rw [put_sz, put_sz, put_sz]; omega)) ((put_ne (by omega)).trans (put_eq (by rw [put_sz, put_sz]; omega))) hj ?_
    refine wpl_loadS rfl tx (.tmp e4) rfl (put_eq (by rw [put_sz, put_sz, put_sz, put_sz]; omega)) (.int .i64 (k + j)) ht hcell ?_
    refine wpl_move ?_
    rw [show Act.eval ((((((a.put (some e0) (.slice (some ⟨p, o, none⟩) n c)).put (some e1) (.int .i64 i)).put (some e2) (.int .i64 j)).put (some e3) (.pointer (some ⟨p, o + i * K, none⟩))).put (some e4) (.pointer (some ⟨p, o + i * K + j, none⟩))).put (some e5) (.int .i64 (k + j))) (.tmp 1) = .int .i64 (k + j) from ((put_ne (by omega)).trans ((put_ne (by omega)).trans ((put_ne (by omega)).trans ((put_ne (by omega)).trans ((put_ne (by omega)).trans ((put_ne (by omega)).trans (S.hk)))))))]
    refine wpl_bin ((put_ne (by omega)).trans (put_eq (by rw [put_sz, put_sz, put_sz, put_sz, put_sz]; omega))) (put_eq (by rw [put_sz, put_sz, put_sz, put_sz, put_sz, put_sz]; omega)) (neq_int _ _ W) (wpl_nil ?_)
    have S9 : Sl N ci i (some ⟨p, o, none⟩) n c (k + j) ((((((((a.put (some e0) (.slice (some ⟨p, o, none⟩) n c)).put (some e1) (.int .i64 i)).put (some e2) (.int .i64 j)).put (some e3) (.pointer (some ⟨p, o + i * K, none⟩))).put (some e4) (.pointer (some ⟨p, o + i * K + j, none⟩))).put (some e5) (.int .i64 (k + j))).put (some e6) (.int .i64 (k + j))).put (some e7) (.bool false)) := ⟨((put_ne (by omega)).trans ((put_ne (by omega)).trans ((put_ne (by omega)).trans ((put_ne (by omega)).trans ((put_ne (by omega)).trans ((put_ne (by omega)).trans ((put_ne (by omega)).trans ((put_ne (by omega)).trans (S.hi))))))))), ((put_ne (by omega)).trans ((put_ne (by omega)).trans ((put_ne (by omega)).trans ((put_ne (by omega)).trans ((put_ne (by omega)).trans ((put_ne (by omega)).trans ((put_ne (by omega)).trans ((put_ne (by omega)).trans (S.s))))))))), ((put_ne (by omega)).trans ((put_ne (by omega)).trans ((put_ne (by omega)).trans ((put_ne (by omega)).trans ((put_ne (by omega)).trans ((put_ne (by omega)).trans ((put_ne (by omega)).trans ((put_ne (by omega)).trans (S.hk))))))))), (put_df.trans (put_df.trans (put_df.trans (put_df.trans (put_df.trans (put_df.trans (put_df.trans (put_df.trans (S.df))))))))), (by rw [put_sz, put_sz, put_sz, put_sz, put_sz, put_sz, put_sz, put_sz]; exact S.sz)⟩
    have J9 : Act.eval ((((((((a.put (some e0) (.slice (some ⟨p, o, none⟩) n c)).put (some e1) (.int .i64 i)).put (some e2) (.int .i64 j)).put (some e3) (.pointer (some ⟨p, o + i * K, none⟩))).put (some e4) (.pointer (some ⟨p, o + i * K + j, none⟩))).put (some e5) (.int .i64 (k + j))).put (some e6) (.int .i64 (k + j))).put (some e7) (.bool false)) (.tmp cj) = .int .i64 j := ((put_ne (by omega)).trans ((put_ne (by omega)).trans ((put_ne (by omega)).trans ((put_ne (by omega)).trans ((put_ne (by omega)).trans ((put_ne (by omega)).trans ((put_ne (by omega)).trans ((put_ne (by omega)).trans (G.hi)))))))))
    refine wp_cond_false (put_eq (by rw [put_sz, put_sz, put_sz, put_sz, put_sz, put_sz, put_sz]; omega)) (wp_skip ?_)
    refine me_inc S9 h1c (by omega) (by omega) (by omega) (k' := k + ((j + 1 : Nat) : Int)) (by omega) ?_
    intro a' S' hj'
    exact kq a' _ ⟨(hj' cj (by omega) (by omega)).trans J9, S'.df, S'.sz, S', rfl⟩
  · intro a V G
    have hD : V = W := G.d
    subst hD
    exact kc a G.x
theorem hd_a2 {g0 : TypeId} {j0 l0 : Nat} {g1 : TypeId} {j1 l1 : Nat} {u0 u1 u2 u3 u4 u5 u6 u7 u8 : TypeId} {v0 v1' v2 v3 v4 v5 v6 v7 v8 : String} {w0 w1 w2 w3 w4 w5 w6 w7 w8 : Array Edge} {ti tj tk tm tk' tm' tR eR ty tz : TypeId} {r2 r3 r4 bq0 bq1 id' id'' cj a0 a1 b0 b1 i0 i1 m off e0 e1 e2 e3 e4 e5 e6 e7 e8 e9 : Nat} {k : Int} {b : List Int} (S : Sl N ci i (some ⟨p, o, none⟩) n c k a) (H : HdE (mArr m) W p off b k) (hd : ci < cj ∧ cj < a0 ∧ a0 < a1 ∧ a1 < b0 ∧ b0 < b1 ∧ b1 < e0 ∧ e0 < e1 ∧ e1 < e2 ∧ e2 < e3 ∧ e3 < e4 ∧ e4 < e5 ∧ e5 < e6 ∧ e6 < e7 ∧ e7 < e8 ∧ e8 < e9 ∧ e9 < i0 ∧ i0 < i1 ∧ i1 < N) (hA : P.underlying tA = some (.slice eA)) (hkA : (P.info? eA).map (·.size) = some K) (hf0 : fldB P g0 j0 l0 = true) (hf1 : fldB P g1 j1 l1 = true) (hR : P.underlying tR = some (.array m eR)) (hkR : (P.info? eR).map (·.size) = some 1) (ht : Sca P tx) (hm0 : m < 1000000) (hk0 : 0 ≤ k) (hk1 : k ≤ 4611686018427387904) (hi : i < n) (h1c : 1 < ci) (ho : off = o + i * K + l0 + l1)
    (kc : ∀ a', Sl N ci i (some ⟨p, o, none⟩) n c (k + (m : Nat)) a' → Q .normal a' W) :
    Code.wp P ((Code.region r2 #[⟨some cj, .assign (.const (.int .i64 0)), u3, v3, w3, none⟩] false).seq (Code.block bq0 (Code.loop
      (((Code.region r3 #[⟨some a0, .move (.tmp cj), u4, v4, w4, none⟩, ⟨some a1, .binOp .lss ti (.tmp a0) (.const (.int .i64 m)) tj, u5, v5, w5, none⟩] false).seq (Code.cond (.tmp a1) Code.skip (Code.exit bq0))).seq
        ((Code.block bq1 (((Code.region id #[⟨some e0, .move (.tmp 0), t0, s0, f0, none⟩, ⟨some e1, .move (.tmp ci), t1, s1, f1, none⟩, ⟨some e2, .move (.tmp cj), t2, s2, f2, none⟩, ⟨some e3, .indexAddr tA (.tmp e0) (.tmp e1), t3, s3, f3, none⟩, ⟨some e4, .fieldAddr g0 (.tmp e3) j0, t4, s4, f4, none⟩, ⟨some e5, .fieldAddr g1 (.tmp e4) j1, t5, s5, f5, none⟩, ⟨some e6, .indexAddr tR (.tmp e5) (.tmp e2), t6, s6, f6, none⟩, ⟨some e7, .load tx (.tmp e6), t7, s7, f7, none⟩, ⟨some e8, .move (.tmp 1), t8, s8, f8, none⟩, ⟨some e9, .binOp .neq ty (.tmp e7) (.tmp e8) tz, t9, s9, f9, none⟩] false).seq (Code.cond (.tmp e9) ((Code.region id' #[⟨some 4, .assign (.const (.int .i64 (-1))), t13, s13, f13, none⟩] false).seq Code.ret) Code.skip)).seq (Code.region id'' #[⟨some i0, .move (.tmp 1), u0, v0, w0, none⟩, ⟨some i1, .binOp .add tk' (.tmp i0) (.const (.int .i64 1)) tm', u1, v1', w1, none⟩, ⟨some 1, .assign (.tmp i1), u2, v2, w2, none⟩] false))).seq (Code.region r4 #[⟨some b0, .move (.tmp cj), u6, v6, w6, none⟩, ⟨some b1, .binOp .add tk (.tmp b0) (.const (.int .i64 1)) tm, u7, v7, w7, none⟩, ⟨some cj, .assign (.tmp b1), u8, v8, w8, none⟩] false)))))) Q a W := by
  have hz := S.sz
  subst ho
  obtain ⟨q0, q1, q2, q3, q4, q5, q6, q7, q8, q9, q10, q11, q12, q13, q14, q15, q16, q17⟩ := hd
  refine arx_loop (m := m) (cj := cj) (N := N) (X := fun j a => Sl N ci i (some ⟨p, o, none⟩) n c (k + (j : Nat)) a) (D := fun _ V => V = W) (fun i a t v h ht => h.put h1c (by omega) v) (fun i a v h => h.put h1c q0 v) ⟨q1, q2, q3, q4, by omega⟩ (by omega) (by rw [show k + ((0 : Nat) : Int) = k by omega]; exact S) rfl S.df hz ?_ ?_
  · intro j a W' hj G Q' kq
    have S := G.x
    have hz := G.sz
    have hD : W = W' := (show W' = W from G.d).symm
    subst hD
    have hcell := hdArr H j hj
    refine wp_seq ?_
    refine wp_seq (wp_region_list ?_)
    refine wpl_move ?_
    rw [S.s]
    refine wpl_move ?_
    rw [show Act.eval (a.put (some e0) (.slice (some ⟨p, o, none⟩) n c)) (.tmp ci) = .int .i64 i from ((put_ne (by omega)).trans (S.hi))]
    refine wpl_move ?_
    rw [show Act.eval ((a.put (some e0) (.slice (some ⟨p, o, none⟩) n c)).put (some e1) (.int .i64 i)) (.tmp cj) = .int .i64 j from ((put_ne (by omega)).trans ((put_ne (by omega)).trans (G.hi)))]
    refine wpl_index hA hkA ((put_ne (by omega)).trans ((put_ne (by omega)).trans (put_eq (by omega)))) ((put_ne (by omega)).trans (put_eq (by rw [put_sz]; omega))) hi ?_
    refine wpl_fieldo (put_eq (by rw [put_sz, put_sz, put_sz]; omega)) hf0 ?_
    refine wpl_fieldo (put_eq (by rw [put_sz, put_sz, put_sz, put_sz]; omega)) hf1 ?_
    refine wpl_indexAo hR hkR (put_eq (by rw [put_sz, put_sz, put_sz, put_sz, put_sz]; omega)) ((put_ne (by omega)).trans ((put_ne (by omega)).trans ((put_ne (by omega)).trans (put_eq (by rw [put_sz, put_sz]; omega))))) hj ?_
    refine wpl_loadS rfl tx (.tmp e6) rfl (put_eq (by rw [put_sz, put_sz, put_sz, put_sz, put_sz, put_sz]; omega)) (.int .i64 (k + j)) ht hcell ?_
    refine wpl_move ?_
    rw [show Act.eval ((((((((a.put (some e0) (.slice (some ⟨p, o, none⟩) n c)).put (some e1) (.int .i64 i)).put (some e2) (.int .i64 j)).put (some e3) (.pointer (some ⟨p, o + i * K, none⟩))).put (some e4) (.pointer (some ⟨p, o + i * K + l0, none⟩))).put (some e5) (.pointer (some ⟨p, o + i * K + l0 + l1, none⟩))).put (some e6) (.pointer (some ⟨p, o + i * K + l0 + l1 + j, none⟩))).put (some e7) (.int .i64 (k + j))) (.tmp 1) = .int .i64 (k + j) from ((put_ne (by omega)).trans ((put_ne (by omega)).trans ((put_ne (by omega)).trans ((put_ne (by omega)).trans ((put_ne (by omega)).trans ((put_ne (by omega)).trans ((put_ne (by omega)).trans ((put_ne (by omega)).trans (S.hk)))))))))]
    refine wpl_bin ((put_ne (by omega)).trans (put_eq (by rw [put_sz, put_sz, put_sz, put_sz, put_sz, put_sz, put_sz]; omega))) (put_eq (by rw [put_sz, put_sz, put_sz, put_sz, put_sz, put_sz, put_sz, put_sz]; omega)) (neq_int _ _ W) (wpl_nil ?_)
    have S9 : Sl N ci i (some ⟨p, o, none⟩) n c (k + j) ((((((((((a.put (some e0) (.slice (some ⟨p, o, none⟩) n c)).put (some e1) (.int .i64 i)).put (some e2) (.int .i64 j)).put (some e3) (.pointer (some ⟨p, o + i * K, none⟩))).put (some e4) (.pointer (some ⟨p, o + i * K + l0, none⟩))).put (some e5) (.pointer (some ⟨p, o + i * K + l0 + l1, none⟩))).put (some e6) (.pointer (some ⟨p, o + i * K + l0 + l1 + j, none⟩))).put (some e7) (.int .i64 (k + j))).put (some e8) (.int .i64 (k + j))).put (some e9) (.bool false)) := ⟨((put_ne (by omega)).trans ((put_ne (by omega)).trans ((put_ne (by omega)).trans ((put_ne (by omega)).trans ((put_ne (by omega)).trans ((put_ne (by omega)).trans ((put_ne (by omega)).trans ((put_ne (by omega)).trans ((put_ne (by omega)).trans ((put_ne (by omega)).trans (S.hi))))))))))), ((put_ne (by omega)).trans ((put_ne (by omega)).trans ((put_ne (by omega)).trans ((put_ne (by omega)).trans ((put_ne (by omega)).trans ((put_ne (by omega)).trans ((put_ne (by omega)).trans ((put_ne (by omega)).trans ((put_ne (by omega)).trans ((put_ne (by omega)).trans (S.s))))))))))), ((put_ne (by omega)).trans ((put_ne (by omega)).trans ((put_ne (by omega)).trans ((put_ne (by omega)).trans ((put_ne (by omega)).trans ((put_ne (by omega)).trans ((put_ne (by omega)).trans ((put_ne (by omega)).trans ((put_ne (by omega)).trans ((put_ne (by omega)).trans (S.hk))))))))))), (put_df.trans (put_df.trans (put_df.trans (put_df.trans (put_df.trans (put_df.trans (put_df.trans (put_df.trans (put_df.trans (put_df.trans (S.df))))))))))), (by rw [put_sz, put_sz, put_sz, put_sz, put_sz, put_sz, put_sz, put_sz, put_sz, put_sz]; exact S.sz)⟩
    have J9 : Act.eval ((((((((((a.put (some e0) (.slice (some ⟨p, o, none⟩) n c)).put (some e1) (.int .i64 i)).put (some e2) (.int .i64 j)).put (some e3) (.pointer (some ⟨p, o + i * K, none⟩))).put (some e4) (.pointer (some ⟨p, o + i * K + l0, none⟩))).put (some e5) (.pointer (some ⟨p, o + i * K + l0 + l1, none⟩))).put (some e6) (.pointer (some ⟨p, o + i * K + l0 + l1 + j, none⟩))).put (some e7) (.int .i64 (k + j))).put (some e8) (.int .i64 (k + j))).put (some e9) (.bool false)) (.tmp cj) = .int .i64 j := ((put_ne (by omega)).trans ((put_ne (by omega)).trans ((put_ne (by omega)).trans ((put_ne (by omega)).trans ((put_ne (by omega)).trans ((put_ne (by omega)).trans ((put_ne (by omega)).trans ((put_ne (by omega)).trans ((put_ne (by omega)).trans ((put_ne (by omega)).trans (G.hi)))))))))))
    refine wp_cond_false (put_eq (by rw [put_sz, put_sz, put_sz, put_sz, put_sz, put_sz, put_sz, put_sz, put_sz]; omega)) (wp_skip ?_)
    refine me_inc S9 h1c (by omega) (by omega) (by omega) (k' := k + ((j + 1 : Nat) : Int)) (by omega) ?_
    intro a' S' hj'
    exact kq a' _ ⟨(hj' cj (by omega) (by omega)).trans J9, S'.df, S'.sz, S', rfl⟩
  · intro a V G
    have hD : V = W := G.d
    subst hD
    exact kc a G.x
end

end Go.Proofs.Ytmfbmnpfgbenmaa
