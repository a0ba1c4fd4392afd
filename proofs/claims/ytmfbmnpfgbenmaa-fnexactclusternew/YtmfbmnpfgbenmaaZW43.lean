/-
  Both ClusterNew: what they answer.
-/
import Derived.Test.YtmfbmnpfgbenmaaZW42
namespace Go.Proofs.Ytmfbmnpfgbenmaa
open Go.ChangeShapes Go.WideShapes Go.ChangeAt Go.RowKit Go.Joins Go.Deep

def cnB (n : Int) (ps : List Int) : Bool := inB n 1 7 && (grB ps [] && decide (prI ps ps.length ≤ n))
def cnX (n : Int) (ps : List Int) : MwT mCluster := if cnB n ps = true then clX n.toNat ps else clZ
def clN : List Value := [.slice none 0 0] ++ (gcs none none 0 0 0 ++ clT)
theorem one_slice (a : Option Addr) (n c : Nat) : One [Value.slice a n c] := one1 rfl
theorem clT_one : One clT := one_app (us := [.slice none 0 0]) (one1 rfl) (one_app (us := [.slice none 0 0]) (one1 rfl) (one_app (us := [.slice none 0 0]) (one1 rfl) (one_app (us := [.slice none 0 0]) (one1 rfl) (one1 rfl))))
theorem gcs_one (ap ab : Option Addr) (np cp cb : Nat) : One (gcs ap ab np cp cb) := one_app (us := [.slice ap np cp]) (one1 rfl) (one1 rfl)
theorem cl_one (r ap ab : Option Addr) (k c np cp cb : Nat) : One ([.slice r k c] ++ (gcs ap ab np cp cb ++ clT)) := one_app (one1 rfl) (one_app (gcs_one _ _ _ _ _) clT_one)
set_option maxRecDepth 10000 in
theorem cl_builtN : Try.prog.built 31 [] = some clN.toArray := by kernel_rfl
set_option maxRecDepth 10000 in
theorem cl_built (ap ab : Option Addr) (np cp cb : Nat) : Try.prog.built 31 [(1, vA (gcs ap ab np cp cb))] = some ([Value.slice none 0 0] ++ (gcs ap ab np cp cb ++ clT)).toArray := by kernel_rfl
theorem gr_built (a : Option Addr) (n c : Nat) : Try.prog.built 25 [(0, Value.slice a n c)] = some (gcs a none n c 0).toArray := by kernel_rfl
theorem clN_own {W : World} {F : Nat → Prop} : mCluster.own W F clN clZ := cl_of (F1 := fun _ => False) (F2 := fun _ => False) (.inl ⟨rfl, none, 0, rfl⟩) (.inl ⟨rfl, none, 0, rfl⟩) ⟨none, 0, rfl⟩ (fun _ h => h.elim) (fun _ h => h.elim) (fun _ h => h.elim)
theorem clN_one : One clN := cl_one none none none 0 0 0 0 0
theorem ret_two {P : Program} {fn : Func} {R : Ending → World → Prop} {a : Act} {W : World} {t : TypeId} {p n : Nat} {us : List Value} {v : Value} (hres : fn.results = #[.cell 4 t, .tmp 5]) (hA : Agg P t n) (hn : us.length = n) (h4 : a.eval (.tmp 4) = .pointer (some ⟨p, 0, none⟩)) (h5 : a.eval (.tmp 5) = v) (hb : Box W p us) (hd : a.defers = []) (hR : R (.returned (.tuple #[vA us, v])) W) : bodyPost P fn R .ret a W := by
  subst hn
  refine bodyPost_ret (v := .tuple #[.agg us.toArray, v]) ?_ hd hR
  have hl : (loadVar t ⟨p, 0, none⟩).run P W = .ok (.agg us.toArray) W := run_loadE (P := P) W hA (box_seg hb)
  have e3 : a.tmps.getD 4 undef = .pointer (some ⟨p, 0, none⟩) := h4
  have e4 : a.tmps[4]?.getD undef = .pointer (some ⟨p, 0, none⟩) := by simpa using e3
  have e5 : a.tmps.getD 5 undef = v := h5
  have e6 : a.tmps[5]?.getD undef = v := by simpa using e5
  simp [results, hres, e4, e6, asAddr, hl]

section
variable {a : Act} {d : Option Tmp} {ty : TypeId} {ps : String} {af : Array Edge} {gd : Option (Nat × Bool)}
theorem ex_len {P : Program} {x : Operand} {t : TypeId} {o : Option Addr} {n c : Nat} (ht : (match P.underlying t with | some (.slice _) => true | _ => false) = true) (hx : a.eval x = .slice o n c) (W : World) :
    (execOp a.eval (⟨d, .call { callee := .builtin .len, args := #[x], argTypes := #[t] }, ty, ps, af, gd⟩ : Oper)).run P W = .ok (.value (.int .i64 n)) W := by
  cases hu : P.underlying t with
  | none => rw [hu] at ht; cases ht
  | some e =>
    rw [hu] at ht
    cases e <;> first | (simp at ht; done) | simp [execOp, resolve, invoke, builtin, Builtin.len_, Sem.run_bind, run_underlying hu, hx, goInt]
theorem ex_zeroS (W : World) : (execOp a.eval (⟨d, .buildSlice 22 0 #[], ty, ps, af, gd⟩ : Oper)).run Try.prog W = .ok (.value (.slice (some ⟨W.heap.size, 0, none⟩) 0 0)) (W.alloc (.cells #[] 3)) := by
  obtain ⟨t1, t2, t3, t4⟩ := Try.tyI
  obtain ⟨ie, hi, hz0, hz1, hz2⟩ := info_parts t2
  simp [execOp, Instr.buildSlice, Sem.run_bind, run_underlying t1, sizeOf, typeInfo, hi, newRow, newObj, Instr.fill, Sem.run]
  have e : Array.map (fun _ : Nat => (default : Value)) (Array.range 0) = #[] := Array.size_eq_zero_iff.1 (by simp)
  rw [e]
end

set_option maxRecDepth 20000 in
set_option maxHeartbeats 8000000 in
theorem iClusterNew_c (nn : Int) (a0 : Option Addr) (m c0 : Nat) (ps : List Int) (w : World) (hm : m = ps.length) (hR : RowG KI w a0 ps) (hl : m ≤ 1048576) :
    Calls Try.prog 7 #[.int .i64 nn, .slice a0 m c0] w fun e V => ∃ us, e = .returned (.tuple #[vA us, .bool (cnB nn ps)]) ∧ mCluster.own V (fun q => w.heap.size ≤ q ∧ q < V.heap.size) us (cnX nn ps) ∧ Below w.heap.size w V := by
  have hpan := pan_body (P := Try.prog) (fn := Try.f7) (R := fun e V => ∃ us, e = .returned (.tuple #[vA us, .bool (cnB nn ps)]) ∧ mCluster.own V (fun q => w.heap.size ≤ q ∧ q < V.heap.size) us (cnX nn ps) ∧ Below w.heap.size w V)
  refine calls_of_wp Try.func7 rfl ?_
  refine env2 (N := 46) rfl (by decide) ?_
  intro a S
  refine wp_seq (wp_region_list ?_)
  refine wpl_alloc (zs := clN) (z := .agg clN.toArray) (by kernel_rfl) rfl ?_
  intro X1 B4 M n1
  have S := S.put (by decide : 4 < 46) (.pointer (some ⟨w.heap.size, 0, none⟩))
  refine wpl_val (ex_assign (v := (.bool false)) rfl _) ?_
  have S := S.put (by decide : 5 < 46) (.bool false)
  refine wpl_nil ?_
  have S := (((S.nil).add (S.get 0 _ rfl)).add (S.get 1 _ rfl)).add (S.get 4 _ rfl)
  refine env_gen (C := fun a => Code.wp Try.prog _ _ a _) S ?_
  clear S; intro a S
  refine wp_seq (wp_region_list ?_)
  refine wpl_val (ex_move (S.get 1 _ rfl) _) ?_
  have S := S.put (by decide : 9 < 46) (.slice a0 m c0)
  have zq0 : Act.eval _ (.tmp 9) = .slice a0 m c0 := S.get 9 _ rfl
  refine wpl_val (ex_build (us := gcs a0 none m c0 0) (by simp only [List.map_toArray, List.map_cons, List.map_nil, zq0]; exact gr_built a0 m c0) _) ?_
  have S := S.put (by decide : 10 < 46) (.agg (List.toArray (gcs a0 none m c0 0)))
  have zq0 : Act.eval _ (.tmp 10) = (.agg (List.toArray (gcs a0 none m c0 0))) := S.get 10 _ rfl
  refine wpl_call ⟨_, Try.func22, by kernel_rfl, by kernel_rfl⟩ (R := fun e V => ∃ a c b d, e = .returned (.agg #[.slice a m c, .slice b 0 d]) ∧ OwnG KI 3 V X1.heap.size (.slice a m c) ps ∧ OwnG KI 3 V X1.heap.size (.slice b 0 d) [] ∧ (∀ k, (Value.slice a m c).ownBlock = some k → (Value.slice b 0 d).ownBlock ≠ some k) ∧ Below X1.heap.size X1 V) ?_ ?_
  · have hc := ownGroup_any a0 m c0 none 0 0 ps [] X1 hm rfl (hR.later M) (RowG.nil _ _ _) hl (by omega)
    simp only [List.map_toArray, List.map_cons, List.map_nil, zq0]; exact hc
  rintro e V1 ⟨ga, gc, gb, gd, rfl, OG, OB, _, hb1⟩
  refine ⟨_, rfl, ?_⟩
  have B4 := B4.later hb1
  have M := M.trans (hb1.mono M.size)
  have z2 := hb1.size
  have S := S.put (by decide : 11 < 46) (.agg (List.toArray (gcs ga gb m gc gd)))
  refine wpl_alloc (zs := gcs none none 0 0 0) (z := .agg (gcs none none 0 0 0).toArray) (by kernel_rfl) rfl ?_
  intro X3 B6 l4 n5
  have p6 : ∃ p, p = V1.heap.size := ⟨_, rfl⟩
  obtain ⟨p6, ep6⟩ := p6
  rw [← ep6] at B6 ⊢
  have S := S.put (by decide : 6 < 46) (.pointer (some ⟨p6, 0, none⟩))
  refine wpl_store (off := 0) (n := 2) rfl 25 (.tmp 6) (.tmp 11) rfl (S.get 6 _ rfl) (S.get 11 _ rfl) (gcs ga gb m gc gd) [] (gcs none none 0 0 0) [] rfl (gcs_one _ _ _ _ _) (by kernel_rfl) rfl (by rw [List.append_nil]; exact B6) rfl rfl ?_
  intro U6 B6 g7 _
  rw [List.nil_append, List.append_nil] at B6
  rw [put_none]
  have h8 : Below V1.heap.size V1 U6 := l4.grown g7 l4.size (fun q hq => by have := Option.some.inj hq; omega)
  have B4 := B4.later h8
  have M := M.trans (h8.mono M.size)
  have z9 := h8.size
  have OG := OG.later h8
  have OB := OB.later h8
  refine wpl_nil ?_
  have S := ((((S.nil).add (S.get 0 _ rfl)).add (S.get 1 _ rfl)).add (S.get 4 _ rfl)).add (S.get 6 _ rfl)
  refine env_gen (C := fun a => Code.wp Try.prog _ _ a _) S ?_
  clear S; intro a S
  refine wp_seq (wp_seq (wp_region_list ?_))
  refine wpl_val (ex_move (S.get 0 _ rfl) _) ?_
  have S := S.put (by decide : 12 < 46) (.int .i64 nn)
  have zq0 : Act.eval _ (.tmp 12) = .int .i64 nn := S.get 12 _ rfl
  refine wpl_call ⟨_, Try.func23, by kernel_rfl, by kernel_rfl⟩ (R := fun e V => e = .returned (.bool (inB nn 1 7)) ∧ U6 = V) ?_ ?_
  · have hc := isWithinR nn 1 7 _ rfl U6
    simp only [List.map_toArray, List.map_cons, List.map_nil, zq0, eval_c]; exact hc
  rintro e V2 ⟨rfl, rfl⟩
  refine ⟨_, rfl, ?_⟩
  have S := S.put (by decide : 13 < 46) (.bool (inB nn 1 7))
  refine wpl_not (S.get 13 _ rfl) ?_
  have S := S.put (by decide : 14 < 46) (.bool (!(inB nn 1 7)))
  refine wpl_val (ex_move (S.get 14 _ rfl) _) ?_
  have S := S.put (by decide : 15 < 46) (.bool (!(inB nn 1 7)))
  refine env_gen (C := fun a => wpList Try.prog _ _ _ a _) S ?_
  clear S; intro a S
  generalize hb1 : inB nn 1 7 = b1 at S
  cases b1 with
  | false =>
    refine env_gen (C := fun a => wpList Try.prog _ _ _ a _) S ?_
    clear S; intro a S
    refine wg_no (j := 3) (t := 15) (b := false) rfl (S.get 15 _ rfl) (by decide) ?_
    have S := S.put (by decide : 16 < 46) undef
    refine env_gen (C := fun a => wpList Try.prog _ _ _ a _) S ?_
    clear S; intro a S
    refine wg_no (j := 3) (t := 15) (b := false) rfl (S.get 15 _ rfl) (by decide) ?_
    have S := S.put (by decide : 17 < 46) undef
    refine env_gen (C := fun a => wpList Try.prog _ _ _ a _) S ?_
    clear S; intro a S
    refine wg_no (j := 3) (t := 15) (b := false) rfl (S.get 15 _ rfl) (by decide) ?_
    have S := S.put (by decide : 18 < 46) undef
    refine env_gen (C := fun a => wpList Try.prog _ _ _ a _) S ?_
    clear S; intro a S
    refine wpl_val (ex_pickT (v := .bool true) (S.get 15 _ rfl) rfl _) ?_
    have S := S.put (by decide : 19 < 46) (.bool true)
    refine env_gen (C := fun a => wpList Try.prog _ _ _ a _) S ?_
    clear S; intro a S
    refine wpl_val (ex_move (S.get 19 _ rfl) _) ?_
    have S := S.put (by decide : 20 < 46) (.bool true)
    refine env_gen (C := fun a => wpList Try.prog _ _ _ a _) S ?_
    clear S; intro a S
    refine wg_no (j := 8) (t := 20) (b := false) rfl (S.get 20 _ rfl) (by decide) ?_
    have S := S.put (by decide : 21 < 46) undef
    refine env_gen (C := fun a => wpList Try.prog _ _ _ a _) S ?_
    clear S; intro a S
    refine wg_no (j := 8) (t := 20) (b := false) rfl (S.get 20 _ rfl) (by decide) ?_
    have S := S.put (by decide : 22 < 46) undef
    refine env_gen (C := fun a => wpList Try.prog _ _ _ a _) S ?_
    clear S; intro a S
    refine wg_no (j := 8) (t := 20) (b := false) rfl (S.get 20 _ rfl) (by decide) ?_
    have S := S.put (by decide : 23 < 46) undef
    refine env_gen (C := fun a => wpList Try.prog _ _ _ a _) S ?_
    clear S; intro a S
    refine wg_no (j := 8) (t := 20) (b := false) rfl (S.get 20 _ rfl) (by decide) ?_
    have S := S.put (by decide : 24 < 46) undef
    refine env_gen (C := fun a => wpList Try.prog _ _ _ a _) S ?_
    clear S; intro a S
    refine wpl_val (ex_pickT (v := .bool true) (S.get 20 _ rfl) rfl _) ?_
    have S := S.put (by decide : 25 < 46) (.bool true)
    refine wpl_nil ?_
    have S := ((S.nil).add (S.get 4 _ rfl)).add (S.get 25 _ rfl)
    refine env_gen (C := fun a => Code.wp Try.prog _ _ a _) S ?_
    clear S; intro a S
    refine wp_cond_true (S.get 25 _ rfl) (wp_seq (wp_region_list ?_))
    refine wpl_val (ex_build (us := clN) (by simpa using cl_builtN) _) ?_
    have S := S.put (by decide : 26 < 46) (.agg (List.toArray clN))
    refine wpl_store (off := 0) (n := 8) rfl 31 (.tmp 4) (.tmp 26) rfl (S.get 4 _ rfl) (S.get 26 _ rfl) clN [] clN [] rfl clN_one (by kernel_rfl) rfl (by rw [List.append_nil]; exact B4) rfl rfl ?_
    intro UZ BZ gZ _
    rw [List.nil_append, List.append_nil] at BZ
    rw [put_none]
    refine wpl_val (ex_assign (v := (.bool false)) rfl _) ?_
    have S := S.put (by decide : 5 < 46) (.bool false)
    refine wpl_nil (wp_ret ?_)
    have hcn : cnB nn ps = false := by unfold cnB; rw [hb1]; rfl
    refine ret_two (P := Try.prog) (fn := Try.f7) (R := fun e V => ∃ us, e = .returned (.tuple #[vA us, .bool (cnB nn ps)]) ∧ mCluster.own V (fun q => w.heap.size ≤ q ∧ q < V.heap.size) us (cnX nn ps) ∧ Below w.heap.size w V) (t := 31) (n := 8) rfl ⟨by kernel_rfl, by kernel_rfl⟩ rfl (S.get 4 _ rfl) (S.get 5 _ rfl) BZ S.df ?_
    refine ⟨clN, by rw [hcn], ?_, M.grown gZ M.size (fun q hq => by have := Option.some.inj hq; omega)⟩
    unfold cnX
    rw [hcn]
    exact clN_own
  | true =>
    refine env_gen (C := fun a => wpList Try.prog _ _ _ a _) S ?_
    clear S; intro a S
    refine wg_yes (j := 3) (t := 15) (b := false) rfl (S.get 15 _ rfl) (by rw [S.sz]; decide) (ex_agg (us := (gcs ga gb m gc gd)) (n := 2) (S.get 6 _ rfl) ⟨by kernel_rfl, by kernel_rfl⟩ rfl _ (box_seg B6)) ?_
    have S := S.put (by decide : 16 < 46) (.agg (List.toArray (gcs ga gb m gc gd)))
    refine env_gen (C := fun a => wpList Try.prog _ _ _ a _) S ?_
    clear S; intro a S
    have zq0 : Act.eval _ (.tmp 16) = (.agg (List.toArray (gcs ga gb m gc gd))) := S.get 16 _ rfl
    refine wg_call (R := fun e V => e = .returned (.bool (grB ps [])) ∧ Below U6.heap.size U6 V) (wan_yes (j := 3) (t := 15) (b := false) rfl (S.get 15 _ rfl) (by rw [S.sz]; decide)) ⟨_, Try.func24, by kernel_rfl, by kernel_rfl⟩ ?_ ?_
    · have hc := iGroupOk_any ga m gc gb 0 gd ps [] U6 hm rfl OG.row (RowG.nil _ _ _) hl (by omega)
      simp only [List.map_toArray, List.map_cons, List.map_nil, zq0]; exact hc
    rintro e V3 ⟨rfl, hb3⟩
    refine ⟨_, rfl, ?_⟩
    have B4 := B4.later hb3
    have B6 := B6.later hb3
    have M := M.trans (hb3.mono M.size)
    have OG := OG.later hb3
    have OB := OB.later hb3
    have z10 := hb3.size
    have S := S.put (by decide : 17 < 46) (.bool (grB ps []))
    refine env_gen (C := fun a => wpList Try.prog _ _ _ a _) S ?_
    clear S; intro a S
    refine wg_yes (j := 3) (t := 15) (b := false) rfl (S.get 15 _ rfl) (by rw [S.sz]; decide) (ex_not (S.get 17 _ rfl) _) ?_
    have S := S.put (by decide : 18 < 46) (.bool (!(grB ps [])))
    refine env_gen (C := fun a => wpList Try.prog _ _ _ a _) S ?_
    clear S; intro a S
    refine wpl_val (ex_pickF (v := .bool (!(grB ps []))) (S.get 15 _ rfl) (S.get 18 _ rfl) _) ?_
    have S := S.put (by decide : 19 < 46) (.bool (!(grB ps [])))
    refine wpl_val (ex_move (S.get 19 _ rfl) _) ?_
    have S := S.put (by decide : 20 < 46) (.bool (!(grB ps [])))
    refine env_gen (C := fun a => wpList Try.prog _ _ _ a _) S ?_
    clear S; intro a S
    generalize hb2 : grB ps [] = b2 at S
    cases b2 with
    | false =>
      refine env_gen (C := fun a => wpList Try.prog _ _ _ a _) S ?_
      clear S; intro a S
      refine wg_no (j := 8) (t := 20) (b := false) rfl (S.get 20 _ rfl) (by decide) ?_
      have S := S.put (by decide : 21 < 46) undef
      refine env_gen (C := fun a => wpList Try.prog _ _ _ a _) S ?_
      clear S; intro a S
      refine wg_no (j := 8) (t := 20) (b := false) rfl (S.get 20 _ rfl) (by decide) ?_
      have S := S.put (by decide : 22 < 46) undef
      refine env_gen (C := fun a => wpList Try.prog _ _ _ a _) S ?_
      clear S; intro a S
      refine wg_no (j := 8) (t := 20) (b := false) rfl (S.get 20 _ rfl) (by decide) ?_
      have S := S.put (by decide : 23 < 46) undef
      refine env_gen (C := fun a => wpList Try.prog _ _ _ a _) S ?_
      clear S; intro a S
      refine wg_no (j := 8) (t := 20) (b := false) rfl (S.get 20 _ rfl) (by decide) ?_
      have S := S.put (by decide : 24 < 46) undef
      refine env_gen (C := fun a => wpList Try.prog _ _ _ a _) S ?_
      clear S; intro a S
      refine wpl_val (ex_pickT (v := .bool true) (S.get 20 _ rfl) rfl _) ?_
      have S := S.put (by decide : 25 < 46) (.bool true)
      refine wpl_nil ?_
      have S := ((S.nil).add (S.get 4 _ rfl)).add (S.get 25 _ rfl)
      refine env_gen (C := fun a => Code.wp Try.prog _ _ a _) S ?_
      clear S; intro a S
      refine wp_cond_true (S.get 25 _ rfl) (wp_seq (wp_region_list ?_))
      refine wpl_val (ex_build (us := clN) (by simpa using cl_builtN) _) ?_
      have S := S.put (by decide : 26 < 46) (.agg (List.toArray clN))
      refine wpl_store (off := 0) (n := 8) rfl 31 (.tmp 4) (.tmp 26) rfl (S.get 4 _ rfl) (S.get 26 _ rfl) clN [] clN [] rfl clN_one (by kernel_rfl) rfl (by rw [List.append_nil]; exact B4) rfl rfl ?_
      intro UZ BZ gZ _
      rw [List.nil_append, List.append_nil] at BZ
      rw [put_none]
      refine wpl_val (ex_assign (v := (.bool false)) rfl _) ?_
      have S := S.put (by decide : 5 < 46) (.bool false)
      refine wpl_nil (wp_ret ?_)
      have hcn : cnB nn ps = false := by unfold cnB; rw [hb1, hb2]; rfl
      refine ret_two (P := Try.prog) (fn := Try.f7) (R := fun e V => ∃ us, e = .returned (.tuple #[vA us, .bool (cnB nn ps)]) ∧ mCluster.own V (fun q => w.heap.size ≤ q ∧ q < V.heap.size) us (cnX nn ps) ∧ Below w.heap.size w V) (t := 31) (n := 8) rfl ⟨by kernel_rfl, by kernel_rfl⟩ rfl (S.get 4 _ rfl) (S.get 5 _ rfl) BZ S.df ?_
      refine ⟨clN, by rw [hcn], ?_, M.grown gZ M.size (fun q hq => by have := Option.some.inj hq; omega)⟩
      unfold cnX
      rw [hcn]
      exact clN_own
    | true =>
      have hid : idsB 0 ps = true ∧ 0 < m := by
        have h := hb2
        unfold grB at h
        simp only [Bool.and_eq_true, decide_eq_true_eq] at h
        exact ⟨h.1.1, by omega⟩
      refine env_gen (C := fun a => wpList Try.prog _ _ _ a _) S ?_
      clear S; intro a S
      refine wg_yes (j := 8) (t := 20) (b := false) rfl (S.get 20 _ rfl) (by rw [S.sz]; decide) (ex_move (S.get 1 _ rfl) _) ?_
      have S := S.put (by decide : 21 < 46) (.slice a0 m c0)
      refine env_gen (C := fun a => wpList Try.prog _ _ _ a _) S ?_
      clear S; intro a S
      have zq0 : Act.eval _ (.tmp 21) = .slice a0 m c0 := S.get 21 _ rfl
      refine wg_call (R := fun e V => e = .returned (.int .i64 (prI ps m)) ∧ V3 = V) (wan_yes (j := 8) (t := 20) (b := false) rfl (S.get 20 _ rfl) (by rw [S.sz]; decide)) ⟨_, Try.func25, by kernel_rfl, by kernel_rfl⟩ ?_ ?_
      · have hc := (max_any a0 m c0 ps V3 hm (hR.later M) hl hid.2 hid.1).mono (fun e V h => (⟨h.1, h.2.symm⟩ : e = .returned (.int .i64 (prI ps m)) ∧ V3 = V))
        simp only [List.map_toArray, List.map_cons, List.map_nil, zq0]; exact hc
      rintro e V4 ⟨rfl, rfl⟩
      refine ⟨_, rfl, ?_⟩
      have S := S.put (by decide : 22 < 46) (.int .i64 (prI ps m))
      refine env_gen (C := fun a => wpList Try.prog _ _ _ a _) S ?_
      clear S; intro a S
      refine wg_yes (j := 8) (t := 20) (b := false) rfl (S.get 20 _ rfl) (by rw [S.sz]; decide) (ex_move (S.get 0 _ rfl) _) ?_
      have S := S.put (by decide : 23 < 46) (.int .i64 nn)
      refine env_gen (C := fun a => wpList Try.prog _ _ _ a _) S ?_
      clear S; intro a S
      refine wg_yes (j := 8) (t := 20) (b := false) rfl (S.get 20 _ rfl) (by rw [S.sz]; decide) (ex_bin (u := .int .i64 (prI ps m)) (v := .int .i64 nn) (S.get 22 _ rfl) (S.get 23 _ rfl) _ (run_gtr _)) ?_
      have S := S.put (by decide : 24 < 46) (.bool (decide (prI ps m > nn)))
      refine env_gen (C := fun a => wpList Try.prog _ _ _ a _) S ?_
      clear S; intro a S
      refine wpl_val (ex_pickF (v := .bool (decide (prI ps m > nn))) (S.get 20 _ rfl) (S.get 24 _ rfl) _) ?_
      have S := S.put (by decide : 25 < 46) (.bool (decide (prI ps m > nn)))
      refine env_gen (C := fun a => wpList Try.prog _ _ _ a _) S ?_
      clear S; intro a S
      generalize hb4 : decide (prI ps m > nn) = b4 at S
      cases b4 with
      | true =>
        refine wpl_nil ?_
        have S := ((S.nil).add (S.get 4 _ rfl)).add (S.get 25 _ rfl)
        refine env_gen (C := fun a => Code.wp Try.prog _ _ a _) S ?_
        clear S; intro a S
        refine wp_cond_true (S.get 25 _ rfl) (wp_seq (wp_region_list ?_))
        refine wpl_val (ex_build (us := clN) (by simpa using cl_builtN) _) ?_
        have S := S.put (by decide : 26 < 46) (.agg (List.toArray clN))
        refine wpl_store (off := 0) (n := 8) rfl 31 (.tmp 4) (.tmp 26) rfl (S.get 4 _ rfl) (S.get 26 _ rfl) clN [] clN [] rfl clN_one (by kernel_rfl) rfl (by rw [List.append_nil]; exact B4) rfl rfl ?_
        intro UZ BZ gZ _
        rw [List.nil_append, List.append_nil] at BZ
        rw [put_none]
        refine wpl_val (ex_assign (v := (.bool false)) rfl _) ?_
        have S := S.put (by decide : 5 < 46) (.bool false)
        refine wpl_nil (wp_ret ?_)
        have hcn : cnB nn ps = false := by unfold cnB; rw [hb1, hb2]; have := of_decide_eq_true hb4; rw [← hm, decide_eq_false (by omega)]; rfl
        refine ret_two (P := Try.prog) (fn := Try.f7) (R := fun e V => ∃ us, e = .returned (.tuple #[vA us, .bool (cnB nn ps)]) ∧ mCluster.own V (fun q => w.heap.size ≤ q ∧ q < V.heap.size) us (cnX nn ps) ∧ Below w.heap.size w V) (t := 31) (n := 8) rfl ⟨by kernel_rfl, by kernel_rfl⟩ rfl (S.get 4 _ rfl) (S.get 5 _ rfl) BZ S.df ?_
        refine ⟨clN, by rw [hcn], ?_, M.grown gZ M.size (fun q hq => by have := Option.some.inj hq; omega)⟩
        unfold cnX
        rw [hcn]
        exact clN_own
      | false =>
        refine wpl_nil ?_
        refine wp_cond_false (S.get 25 _ rfl) (wp_skip ?_)
        have S := (((S.nil).add (S.get 0 _ rfl)).add (S.get 4 _ rfl)).add (S.get 6 _ rfl)
        refine env_gen (C := fun a => Code.wp Try.prog _ _ a _) S ?_
        clear S; intro a S
        refine wp_seq (wp_region_list ?_)
        refine wpl_val (ex_agg (us := (gcs ga gb m gc gd)) (n := 2) (S.get 6 _ rfl) ⟨by kernel_rfl, by kernel_rfl⟩ rfl _ (box_seg B6)) ?_
        have S := S.put (by decide : 27 < 46) (.agg (List.toArray (gcs ga gb m gc gd)))
        have zq0 : Act.eval _ (.tmp 27) = (.agg (List.toArray (gcs ga gb m gc gd))) := S.get 27 _ rfl
        refine wpl_val (ex_build (us := ([.slice none 0 0] ++ ((gcs ga gb m gc gd) ++ clT))) (by simp only [List.map_toArray, List.map_cons, List.map_nil, zq0]; exact cl_built ga gb m gc gd) _) ?_
        have S := S.put (by decide : 28 < 46) (.agg (List.toArray ([.slice none 0 0] ++ ((gcs ga gb m gc gd) ++ clT))))
        have OGp : ∀ q, ob (.slice ga m gc) q → q < V3.heap.size := fun q hq => (OG.lt q hq).2
        have OGq : ∀ q, ob (.slice ga m gc) q → w.heap.size < q := fun q hq => by have := (OG.lt q hq).1; omega
        refine wpl_alloc (zs := clN) (z := .agg clN.toArray) (by kernel_rfl) rfl ?_
        intro X11 B7 l12 n13
        have p7 : ∃ p, p = V3.heap.size := ⟨_, rfl⟩
        obtain ⟨p7, ep7⟩ := p7
        rw [← ep7] at B7 ⊢
        have S := S.put (by decide : 7 < 46) (.pointer (some ⟨p7, 0, none⟩))
        refine wpl_store (off := 0) (n := 8) rfl 31 (.tmp 7) (.tmp 28) rfl (S.get 7 _ rfl) (S.get 28 _ rfl) ([.slice none 0 0] ++ ((gcs ga gb m gc gd) ++ clT)) [] (clN) [] rfl (cl_one _ _ _ _ _ _ _ _) (by kernel_rfl) rfl (by rw [List.append_nil]; exact B7) rfl rfl ?_
        intro U14 B7 g15 _
        rw [List.nil_append, List.append_nil] at B7
        rw [put_none]
        have h16 : Below V3.heap.size V3 U14 := l12.grown g15 l12.size (fun q hq => by have := Option.some.inj hq; omega)
        have B4 := B4.later h16
        have B6 := B6.later h16
        have M := M.trans (h16.mono M.size)
        have OG := OG.later h16
        have OB := OB.later h16
        have z17 := h16.size
        refine wpl_nil ?_
        have S := ((((S.nil).add (S.get 0 _ rfl)).add (S.get 4 _ rfl)).add (S.get 6 _ rfl)).add (S.get 7 _ rfl)
        refine env_gen (C := fun a => Code.wp Try.prog _ _ a _) S ?_
        clear S; intro a S
        have hnn : nn = ((nn.toNat : Nat) : Int) ∧ nn.toNat ≤ 7 := by
          have h := hb1
          unfold inB at h
          simp only [Bool.and_eq_true, decide_eq_true_eq] at h
          omega
        obtain ⟨hnn, hn7⟩ := hnn
        have b4l := B4.lt
        have b6l := B6.lt
        have b7l := B7.lt
        have K : Cl ga gb m gc gd ps w.heap.size U14.heap.size w.heap.size p7 p6 0 (fun q => ob (.slice ga m gc) q) := ⟨hm, hl, OG.caps.2.2.2, OB.caps.2.2.2, hb2, by omega, b7l, .inr ⟨by omega, b6l⟩, ⟨by omega, b4l⟩, fun q hq => ⟨by have := (OG.lt q hq).1; omega, (OG.lt q hq).2, by have := OGp q hq; omega⟩⟩
        have HO := own_int OG (by omega) (fun q => ob (.slice ga m gc) q) (fun q hq => hq)
        have HD : Dl w ga gb m gc gd ps w.heap.size U14.heap.size w.heap.size p7 p6 0 (fun q => ob (.slice ga m gc) q) clT clN 0 U14 := ⟨⟨none, 0, [], fun _ _ => False, Rw.nil _ _ _, by rw [List.nil_append]; exact B7⟩, box_seg B6, B6.lt, B4, HO, M, Nat.le_refl _, M.size⟩
        refine cn_loop (N := 46) (sc := 7) (ci := 8) (n := nn.toNat) (p4 := w.heap.size) (p6 := p6) (pC := p7) (D := fun i V => Dl w ga gb m gc gd ps w.heap.size U14.heap.size w.heap.size p7 p6 0 (fun q => ob (.slice ga m gc) q) clT clN i V) (by decide) (by decide) hn7 ⟨(put_ne (by decide)).trans (by rw [← hnn]; exact S.get 0 _ rfl), (put_ne (by decide)).trans (S.get 4 _ rfl), (put_ne (by decide)).trans (S.get 6 _ rfl), (put_ne (by decide)).trans (S.get 7 _ rfl), put_eq (by rw [S.sz]; decide), put_df.trans S.df, put_sz.trans S.sz, by decide, by decide⟩ HD ?_ hpan ?_
        · intro i a V hi Sa Ha Q2 hk hp
          exact i_round K Sa Ha ⟨rfl, rfl⟩ (by omega) hp hk
        intro a V Sa Ha
        obtain ⟨ra, rc, rs, G, hRw, hBx⟩ := Ha.row
        rw [List.nil_append] at hBx
        have b4 := Ha.z4
        refine wp_seq (wp_region_list ?_)
        refine wpl_val (ex_agg (us := ([.slice ra nn.toNat rc] ++ ((gcs ga gb m gc gd) ++ clT))) (n := 8) Sa.eC ⟨by kernel_rfl, by kernel_rfl⟩ rfl _ (box_seg hBx)) ?_
        have S1 := Sa.put (by decide : 8 < 45) (.agg (List.toArray ([.slice ra nn.toNat rc] ++ ((gcs ga gb m gc gd) ++ clT))))
        refine wpl_store (off := 0) (n := 8) rfl 31 (.tmp 4) (.tmp 45) rfl S1.s4 (put_eq (by rw [Sa.sz]; decide)) ([.slice ra nn.toNat rc] ++ ((gcs ga gb m gc gd) ++ clT)) [] clN [] rfl (cl_one _ _ _ _ _ _ _ _) (by kernel_rfl) rfl (by rw [List.append_nil]; exact b4) rfl rfl ?_
        intro U hU hg _
        rw [List.nil_append, List.append_nil] at hU
        rw [put_none]
        refine wpl_val (ex_assign (v := (.bool true)) rfl _) ?_
        refine wpl_nil (wp_ret ?_)
        have hcn : cnB nn ps = true := by
          have := of_decide_eq_false hb4
          unfold cnB
          rw [hb1, hb2, ← hm, decide_eq_true (by omega)]
          rfl
        have hgs := hg.size
        have hds := Ha.d
        have hms := Ha.m.size
        refine ret_two (P := Try.prog) (fn := Try.f7) (R := fun e V => ∃ us, e = .returned (.tuple #[vA us, .bool (cnB nn ps)]) ∧ mCluster.own V (fun q => w.heap.size ≤ q ∧ q < V.heap.size) us (cnX nn ps) ∧ Below w.heap.size w V) (t := 31) (n := 8) rfl ⟨by kernel_rfl, by kernel_rfl⟩ rfl ((put_ne (by decide)).trans S1.s4) (put_eq (by rw [S1.sz]; decide)) hU (put_df.trans S1.df) ⟨([.slice ra nn.toNat rc] ++ ((gcs ga gb m gc gd) ++ clT)), by rw [hcn], ?_, Ha.m.grown hg hms (fun q hq => by have := Option.some.inj hq; omega)⟩
        unfold cnX
        rw [hcn, if_pos rfl]
        exact cl_of ((hRw.box hg b4l).all (by omega)) (mIntS.chg Ha.own (Chg.row hg) (fun q hq e => by have := OGq q hq; have e2 : q = w.heap.size := e; omega)) ⟨gb, gd, rfl⟩ (fun q hq => ⟨by omega, hq.2⟩) (fun q hq => ⟨by have := OGq q hq; omega, by have := (K.fg q hq).2.1; omega⟩) (fun q hq h2 => by have := (K.fg q h2).2.1; omega)

set_option maxRecDepth 20000 in
set_option maxHeartbeats 8000000 in
theorem sClusterNew_c (nn : Int) (a0 : Option Addr) (m c0 : Nat) (ps : List Int) (w : World) (hm : m = ps.length) (hR : RowG KI w a0 ps) (hl : m ≤ 1048576) (hc0 : a0 = none → c0 = 0) :
    Calls Try.prog 5 #[.int .i64 nn, .slice a0 m c0] w fun e V => ∃ us, e = .returned (.tuple #[vA us, .bool (cnB nn ps)]) ∧ mCluster.own V (fun q => w.heap.size ≤ q ∧ q < V.heap.size) us (cnX nn ps) ∧ Below w.heap.size w V := by
  have hpan := pan_body (P := Try.prog) (fn := Try.f5) (R := fun e V => ∃ us, e = .returned (.tuple #[vA us, .bool (cnB nn ps)]) ∧ mCluster.own V (fun q => w.heap.size ≤ q ∧ q < V.heap.size) us (cnX nn ps) ∧ Below w.heap.size w V)
  refine calls_of_wp Try.func5 rfl ?_
  refine env2 (N := 55) rfl (by decide) ?_
  intro a S
  refine wp_seq (wp_region_list ?_)
  refine wpl_alloc (zs := clN) (z := .agg clN.toArray) (by kernel_rfl) rfl ?_
  intro X1 B4 M n1
  have S := S.put (by decide : 4 < 55) (.pointer (some ⟨w.heap.size, 0, none⟩))
  refine wpl_val (ex_assign (v := (.bool false)) rfl _) ?_
  have S := S.put (by decide : 5 < 55) (.bool false)
  refine wpl_nil ?_
  have S := (((S.nil).add (S.get 0 _ rfl)).add (S.get 1 _ rfl)).add (S.get 4 _ rfl)
  refine env_gen (C := fun a => Code.wp Try.prog _ _ a _) S ?_
  clear S; intro a S
  refine wp_seq (wp_seq (wp_region_list ?_))
  have hM0 := n1
  refine wpl_val (ex_move (S.get 0 _ rfl) _) ?_
  have S := S.put (by decide : 8 < 55) (.int .i64 nn)
  have zq0 : Act.eval _ (.tmp 8) = .int .i64 nn := S.get 8 _ rfl
  refine wpl_call ⟨_, Try.func17, by kernel_rfl, by kernel_rfl⟩ (R := fun e V => e = .returned (.bool (inB nn 1 7)) ∧ X1 = V) ?_ ?_
  · have hc := l1In14 nn 1 7 _ rfl X1
    simp only [List.map_toArray, List.map_cons, List.map_nil, zq0, eval_c]; exact hc
  rintro e V2 ⟨rfl, rfl⟩
  refine ⟨_, rfl, ?_⟩
  have S := S.put (by decide : 9 < 55) (.bool (inB nn 1 7))
  refine wpl_not (S.get 9 _ rfl) ?_
  have S := S.put (by decide : 10 < 55) (.bool (!(inB nn 1 7)))
  refine wpl_val (ex_move (S.get 10 _ rfl) _) ?_
  have S := S.put (by decide : 11 < 55) (.bool (!(inB nn 1 7)))
  refine env_gen (C := fun a => wpList Try.prog _ _ _ a _) S ?_
  clear S; intro a S
  generalize hb1 : inB nn 1 7 = b1 at S
  cases b1 with
  | false =>
    refine env_gen (C := fun a => wpList Try.prog _ _ _ a _) S ?_
    clear S; intro a S
    refine wg_no (j := 3) (t := 11) (b := false) rfl (S.get 11 _ rfl) (by decide) ?_
    have S := S.put (by decide : 12 < 55) undef
    refine env_gen (C := fun a => wpList Try.prog _ _ _ a _) S ?_
    clear S; intro a S
    refine wg_no (j := 3) (t := 11) (b := false) rfl (S.get 11 _ rfl) (by decide) ?_
    have S := S.put (by decide : 13 < 55) undef
    refine env_gen (C := fun a => wpList Try.prog _ _ _ a _) S ?_
    clear S; intro a S
    refine wg_no (j := 3) (t := 11) (b := false) rfl (S.get 11 _ rfl) (by decide) ?_
    have S := S.put (by decide : 14 < 55) undef
    refine env_gen (C := fun a => wpList Try.prog _ _ _ a _) S ?_
    clear S; intro a S
    refine wpl_val (ex_pickT (v := .bool true) (S.get 11 _ rfl) rfl _) ?_
    have S := S.put (by decide : 15 < 55) (.bool true)
    refine env_gen (C := fun a => wpList Try.prog _ _ _ a _) S ?_
    clear S; intro a S
    refine wpl_val (ex_move (S.get 15 _ rfl) _) ?_
    have S := S.put (by decide : 16 < 55) (.bool true)
    refine env_gen (C := fun a => wpList Try.prog _ _ _ a _) S ?_
    clear S; intro a S
    refine wg_no (j := 8) (t := 16) (b := false) rfl (S.get 16 _ rfl) (by decide) ?_
    have S := S.put (by decide : 17 < 55) undef
    refine env_gen (C := fun a => wpList Try.prog _ _ _ a _) S ?_
    clear S; intro a S
    refine wg_no (j := 8) (t := 16) (b := false) rfl (S.get 16 _ rfl) (by decide) ?_
    have S := S.put (by decide : 18 < 55) undef
    refine env_gen (C := fun a => wpList Try.prog _ _ _ a _) S ?_
    clear S; intro a S
    refine wg_no (j := 8) (t := 16) (b := false) rfl (S.get 16 _ rfl) (by decide) ?_
    have S := S.put (by decide : 19 < 55) undef
    refine env_gen (C := fun a => wpList Try.prog _ _ _ a _) S ?_
    clear S; intro a S
    refine wpl_val (ex_pickT (v := .bool true) (S.get 16 _ rfl) rfl _) ?_
    have S := S.put (by decide : 20 < 55) (.bool true)
    refine env_gen (C := fun a => wpList Try.prog _ _ _ a _) S ?_
    clear S; intro a S
    refine wpl_val (ex_move (S.get 20 _ rfl) _) ?_
    have S := S.put (by decide : 21 < 55) (.bool true)
    refine env_gen (C := fun a => wpList Try.prog _ _ _ a _) S ?_
    clear S; intro a S
    refine wg_no (j := 13) (t := 21) (b := false) rfl (S.get 21 _ rfl) (by decide) ?_
    have S := S.put (by decide : 22 < 55) undef
    refine env_gen (C := fun a => wpList Try.prog _ _ _ a _) S ?_
    clear S; intro a S
    refine wg_no (j := 13) (t := 21) (b := false) rfl (S.get 21 _ rfl) (by decide) ?_
    have S := S.put (by decide : 23 < 55) undef
    refine env_gen (C := fun a => wpList Try.prog _ _ _ a _) S ?_
    clear S; intro a S
    refine wg_no (j := 13) (t := 21) (b := false) rfl (S.get 21 _ rfl) (by decide) ?_
    have S := S.put (by decide : 24 < 55) undef
    refine env_gen (C := fun a => wpList Try.prog _ _ _ a _) S ?_
    clear S; intro a S
    refine wg_no (j := 13) (t := 21) (b := false) rfl (S.get 21 _ rfl) (by decide) ?_
    have S := S.put (by decide : 25 < 55) undef
    refine env_gen (C := fun a => wpList Try.prog _ _ _ a _) S ?_
    clear S; intro a S
    refine wg_no (j := 13) (t := 21) (b := false) rfl (S.get 21 _ rfl) (by decide) ?_
    have S := S.put (by decide : 26 < 55) undef
    refine env_gen (C := fun a => wpList Try.prog _ _ _ a _) S ?_
    clear S; intro a S
    refine wg_no (j := 13) (t := 21) (b := false) rfl (S.get 21 _ rfl) (by decide) ?_
    have S := S.put (by decide : 27 < 55) undef
    refine env_gen (C := fun a => wpList Try.prog _ _ _ a _) S ?_
    clear S; intro a S
    refine wg_no (j := 13) (t := 21) (b := false) rfl (S.get 21 _ rfl) (by decide) ?_
    have S := S.put (by decide : 28 < 55) undef
    refine env_gen (C := fun a => wpList Try.prog _ _ _ a _) S ?_
    clear S; intro a S
    refine wg_no (j := 13) (t := 21) (b := false) rfl (S.get 21 _ rfl) (by decide) ?_
    have S := S.put (by decide : 29 < 55) undef
    refine env_gen (C := fun a => wpList Try.prog _ _ _ a _) S ?_
    clear S; intro a S
    refine wpl_val (ex_pickT (v := .bool true) (S.get 21 _ rfl) rfl _) ?_
    have S := S.put (by decide : 30 < 55) (.bool true)
    refine wpl_nil ?_
    have S := ((S.nil).add (S.get 4 _ rfl)).add (S.get 30 _ rfl)
    refine env_gen (C := fun a => Code.wp Try.prog _ _ a _) S ?_
    clear S; intro a S
    refine wp_cond_true (S.get 30 _ rfl) (wp_seq (wp_region_list ?_))
    refine wpl_val (ex_build (us := clN) (by simpa using cl_builtN) _) ?_
    have S := S.put (by decide : 31 < 55) (.agg (List.toArray clN))
    refine wpl_store (off := 0) (n := 8) rfl 31 (.tmp 4) (.tmp 31) rfl (S.get 4 _ rfl) (S.get 31 _ rfl) clN [] clN [] rfl clN_one (by kernel_rfl) rfl (by rw [List.append_nil]; exact B4) rfl rfl ?_
    intro UZ BZ gZ _
    rw [List.nil_append, List.append_nil] at BZ
    rw [put_none]
    refine wpl_val (ex_assign (v := (.bool false)) rfl _) ?_
    have S := S.put (by decide : 5 < 55) (.bool false)
    refine wpl_nil (wp_ret ?_)
    have hcn : cnB nn ps = false := by unfold cnB; rw [hb1]; rfl
    refine ret_two (P := Try.prog) (fn := Try.f5) (R := fun e V => ∃ us, e = .returned (.tuple #[vA us, .bool (cnB nn ps)]) ∧ mCluster.own V (fun q => w.heap.size ≤ q ∧ q < V.heap.size) us (cnX nn ps) ∧ Below w.heap.size w V) (t := 31) (n := 8) rfl ⟨by kernel_rfl, by kernel_rfl⟩ rfl (S.get 4 _ rfl) (S.get 5 _ rfl) BZ S.df ?_
    refine ⟨clN, by rw [hcn], ?_, M.grown gZ M.size (fun q hq => by have := Option.some.inj hq; omega)⟩
    unfold cnX
    rw [hcn]
    exact clN_own
  | true =>
    refine env_gen (C := fun a => wpList Try.prog _ _ _ a _) S ?_
    clear S; intro a S
    refine wg_yes (j := 3) (t := 11) (b := false) rfl (S.get 11 _ rfl) (by rw [S.sz]; decide) (ex_move (S.get 1 _ rfl) _) ?_
    have S := S.put (by decide : 12 < 55) (.slice a0 m c0)
    refine env_gen (C := fun a => wpList Try.prog _ _ _ a _) S ?_
    clear S; intro a S
    have zq0 : Act.eval _ (.tmp 12) = .slice a0 m c0 := S.get 12 _ rfl
    refine wg_call (R := fun e V => e = .returned (.bool (idsB 0 ps)) ∧ Below X1.heap.size X1 V) (wan_yes (j := 3) (t := 11) (b := false) rfl (S.get 11 _ rfl) (by rw [S.sz]; decide)) ⟨_, Try.func18, by kernel_rfl, by kernel_rfl⟩ ?_ ?_
    · have hc := l12Ids_any a0 m c0 ps X1 hm (hR.later M) hl
      simp only [List.map_toArray, List.map_cons, List.map_nil, zq0]; exact hc
    rintro e V3 ⟨rfl, hb3⟩
    refine ⟨_, rfl, ?_⟩
    have B4 := B4.later hb3
    have M := M.trans (hb3.mono M.size)
    have z1 := hb3.size
    have S := S.put (by decide : 13 < 55) (.bool (idsB 0 ps))
    refine env_gen (C := fun a => wpList Try.prog _ _ _ a _) S ?_
    clear S; intro a S
    refine wg_yes (j := 3) (t := 11) (b := false) rfl (S.get 11 _ rfl) (by rw [S.sz]; decide) (ex_not (S.get 13 _ rfl) _) ?_
    have S := S.put (by decide : 14 < 55) (.bool (!(idsB 0 ps)))
    refine env_gen (C := fun a => wpList Try.prog _ _ _ a _) S ?_
    clear S; intro a S
    refine wpl_val (ex_pickF (v := .bool (!(idsB 0 ps))) (S.get 11 _ rfl) (S.get 14 _ rfl) _) ?_
    have S := S.put (by decide : 15 < 55) (.bool (!(idsB 0 ps)))
    refine wpl_val (ex_move (S.get 15 _ rfl) _) ?_
    have S := S.put (by decide : 16 < 55) (.bool (!(idsB 0 ps)))
    refine env_gen (C := fun a => wpList Try.prog _ _ _ a _) S ?_
    clear S; intro a S
    generalize hb2 : idsB 0 ps = b2 at S
    cases b2 with
    | false =>
      refine env_gen (C := fun a => wpList Try.prog _ _ _ a _) S ?_
      clear S; intro a S
      refine wg_no (j := 8) (t := 16) (b := false) rfl (S.get 16 _ rfl) (by decide) ?_
      have S := S.put (by decide : 17 < 55) undef
      refine env_gen (C := fun a => wpList Try.prog _ _ _ a _) S ?_
      clear S; intro a S
      refine wg_no (j := 8) (t := 16) (b := false) rfl (S.get 16 _ rfl) (by decide) ?_
      have S := S.put (by decide : 18 < 55) undef
      refine env_gen (C := fun a => wpList Try.prog _ _ _ a _) S ?_
      clear S; intro a S
      refine wg_no (j := 8) (t := 16) (b := false) rfl (S.get 16 _ rfl) (by decide) ?_
      have S := S.put (by decide : 19 < 55) undef
      refine env_gen (C := fun a => wpList Try.prog _ _ _ a _) S ?_
      clear S; intro a S
      refine wpl_val (ex_pickT (v := .bool true) (S.get 16 _ rfl) rfl _) ?_
      have S := S.put (by decide : 20 < 55) (.bool true)
      refine env_gen (C := fun a => wpList Try.prog _ _ _ a _) S ?_
      clear S; intro a S
      refine wpl_val (ex_move (S.get 20 _ rfl) _) ?_
      have S := S.put (by decide : 21 < 55) (.bool true)
      refine env_gen (C := fun a => wpList Try.prog _ _ _ a _) S ?_
      clear S; intro a S
      refine wg_no (j := 13) (t := 21) (b := false) rfl (S.get 21 _ rfl) (by decide) ?_
      have S := S.put (by decide : 22 < 55) undef
      refine env_gen (C := fun a => wpList Try.prog _ _ _ a _) S ?_
      clear S; intro a S
      refine wg_no (j := 13) (t := 21) (b := false) rfl (S.get 21 _ rfl) (by decide) ?_
      have S := S.put (by decide : 23 < 55) undef
      refine env_gen (C := fun a => wpList Try.prog _ _ _ a _) S ?_
      clear S; intro a S
      refine wg_no (j := 13) (t := 21) (b := false) rfl (S.get 21 _ rfl) (by decide) ?_
      have S := S.put (by decide : 24 < 55) undef
      refine env_gen (C := fun a => wpList Try.prog _ _ _ a _) S ?_
      clear S; intro a S
      refine wg_no (j := 13) (t := 21) (b := false) rfl (S.get 21 _ rfl) (by decide) ?_
      have S := S.put (by decide : 25 < 55) undef
      refine env_gen (C := fun a => wpList Try.prog _ _ _ a _) S ?_
      clear S; intro a S
      refine wg_no (j := 13) (t := 21) (b := false) rfl (S.get 21 _ rfl) (by decide) ?_
      have S := S.put (by decide : 26 < 55) undef
      refine env_gen (C := fun a => wpList Try.prog _ _ _ a _) S ?_
      clear S; intro a S
      refine wg_no (j := 13) (t := 21) (b := false) rfl (S.get 21 _ rfl) (by decide) ?_
      have S := S.put (by decide : 27 < 55) undef
      refine env_gen (C := fun a => wpList Try.prog _ _ _ a _) S ?_
      clear S; intro a S
      refine wg_no (j := 13) (t := 21) (b := false) rfl (S.get 21 _ rfl) (by decide) ?_
      have S := S.put (by decide : 28 < 55) undef
      refine env_gen (C := fun a => wpList Try.prog _ _ _ a _) S ?_
      clear S; intro a S
      refine wg_no (j := 13) (t := 21) (b := false) rfl (S.get 21 _ rfl) (by decide) ?_
      have S := S.put (by decide : 29 < 55) undef
      refine env_gen (C := fun a => wpList Try.prog _ _ _ a _) S ?_
      clear S; intro a S
      refine wpl_val (ex_pickT (v := .bool true) (S.get 21 _ rfl) rfl _) ?_
      have S := S.put (by decide : 30 < 55) (.bool true)
      refine wpl_nil ?_
      have S := ((S.nil).add (S.get 4 _ rfl)).add (S.get 30 _ rfl)
      refine env_gen (C := fun a => Code.wp Try.prog _ _ a _) S ?_
      clear S; intro a S
      refine wp_cond_true (S.get 30 _ rfl) (wp_seq (wp_region_list ?_))
      refine wpl_val (ex_build (us := clN) (by simpa using cl_builtN) _) ?_
      have S := S.put (by decide : 31 < 55) (.agg (List.toArray clN))
      refine wpl_store (off := 0) (n := 8) rfl 31 (.tmp 4) (.tmp 31) rfl (S.get 4 _ rfl) (S.get 31 _ rfl) clN [] clN [] rfl clN_one (by kernel_rfl) rfl (by rw [List.append_nil]; exact B4) rfl rfl ?_
      intro UZ BZ gZ _
      rw [List.nil_append, List.append_nil] at BZ
      rw [put_none]
      refine wpl_val (ex_assign (v := (.bool false)) rfl _) ?_
      have S := S.put (by decide : 5 < 55) (.bool false)
      refine wpl_nil (wp_ret ?_)
      have hcn : cnB nn ps = false := by unfold cnB grB; rw [hb1, hb2]; rfl
      refine ret_two (P := Try.prog) (fn := Try.f5) (R := fun e V => ∃ us, e = .returned (.tuple #[vA us, .bool (cnB nn ps)]) ∧ mCluster.own V (fun q => w.heap.size ≤ q ∧ q < V.heap.size) us (cnX nn ps) ∧ Below w.heap.size w V) (t := 31) (n := 8) rfl ⟨by kernel_rfl, by kernel_rfl⟩ rfl (S.get 4 _ rfl) (S.get 5 _ rfl) BZ S.df ?_
      refine ⟨clN, by rw [hcn], ?_, M.grown gZ M.size (fun q hq => by have := Option.some.inj hq; omega)⟩
      unfold cnX
      rw [hcn]
      exact clN_own
    | true =>
      refine env_gen (C := fun a => wpList Try.prog _ _ _ a _) S ?_
      clear S; intro a S
      refine wg_yes (j := 8) (t := 16) (b := false) rfl (S.get 16 _ rfl) (by rw [S.sz]; decide) (ex_move (S.get 1 _ rfl) _) ?_
      have S := S.put (by decide : 17 < 55) (.slice a0 m c0)
      refine env_gen (C := fun a => wpList Try.prog _ _ _ a _) S ?_
      clear S; intro a S
      refine wg_yes (j := 8) (t := 16) (b := false) rfl (S.get 16 _ rfl) (by rw [S.sz]; decide) (ex_len (by kernel_rfl) (S.get 17 _ rfl) _) ?_
      have S := S.put (by decide : 18 < 55) (.int .i64 m)
      refine env_gen (C := fun a => wpList Try.prog _ _ _ a _) S ?_
      clear S; intro a S
      refine wg_yes (j := 8) (t := 16) (b := false) rfl (S.get 16 _ rfl) (by rw [S.sz]; decide) (ex_bin (u := .int .i64 m) (v := .int .i64 0) (S.get 18 _ rfl) rfl _ (run_eqi _)) ?_
      have S := S.put (by decide : 19 < 55) (.bool ((m : Int) == 0))
      refine env_gen (C := fun a => wpList Try.prog _ _ _ a _) S ?_
      clear S; intro a S
      refine wpl_val (ex_pickF (v := .bool ((m : Int) == 0)) (S.get 16 _ rfl) (S.get 19 _ rfl) _) ?_
      have S := S.put (by decide : 20 < 55) (.bool ((m : Int) == 0))
      refine wpl_val (ex_move (S.get 20 _ rfl) _) ?_
      have S := S.put (by decide : 21 < 55) (.bool ((m : Int) == 0))
      refine env_gen (C := fun a => wpList Try.prog _ _ _ a _) S ?_
      clear S; intro a S
      generalize hb5 : ((m : Int) == 0) = b5 at S
      cases b5 with
      | true =>
        refine env_gen (C := fun a => wpList Try.prog _ _ _ a _) S ?_
        clear S; intro a S
        refine wg_no (j := 13) (t := 21) (b := false) rfl (S.get 21 _ rfl) (by decide) ?_
        have S := S.put (by decide : 22 < 55) undef
        refine env_gen (C := fun a => wpList Try.prog _ _ _ a _) S ?_
        clear S; intro a S
        refine wg_no (j := 13) (t := 21) (b := false) rfl (S.get 21 _ rfl) (by decide) ?_
        have S := S.put (by decide : 23 < 55) undef
        refine env_gen (C := fun a => wpList Try.prog _ _ _ a _) S ?_
        clear S; intro a S
        refine wg_no (j := 13) (t := 21) (b := false) rfl (S.get 21 _ rfl) (by decide) ?_
        have S := S.put (by decide : 24 < 55) undef
        refine env_gen (C := fun a => wpList Try.prog _ _ _ a _) S ?_
        clear S; intro a S
        refine wg_no (j := 13) (t := 21) (b := false) rfl (S.get 21 _ rfl) (by decide) ?_
        have S := S.put (by decide : 25 < 55) undef
        refine env_gen (C := fun a => wpList Try.prog _ _ _ a _) S ?_
        clear S; intro a S
        refine wg_no (j := 13) (t := 21) (b := false) rfl (S.get 21 _ rfl) (by decide) ?_
        have S := S.put (by decide : 26 < 55) undef
        refine env_gen (C := fun a => wpList Try.prog _ _ _ a _) S ?_
        clear S; intro a S
        refine wg_no (j := 13) (t := 21) (b := false) rfl (S.get 21 _ rfl) (by decide) ?_
        have S := S.put (by decide : 27 < 55) undef
        refine env_gen (C := fun a => wpList Try.prog _ _ _ a _) S ?_
        clear S; intro a S
        refine wg_no (j := 13) (t := 21) (b := false) rfl (S.get 21 _ rfl) (by decide) ?_
        have S := S.put (by decide : 28 < 55) undef
        refine env_gen (C := fun a => wpList Try.prog _ _ _ a _) S ?_
        clear S; intro a S
        refine wg_no (j := 13) (t := 21) (b := false) rfl (S.get 21 _ rfl) (by decide) ?_
        have S := S.put (by decide : 29 < 55) undef
        refine env_gen (C := fun a => wpList Try.prog _ _ _ a _) S ?_
        clear S; intro a S
        refine wpl_val (ex_pickT (v := .bool true) (S.get 21 _ rfl) rfl _) ?_
        have S := S.put (by decide : 30 < 55) (.bool true)
        refine wpl_nil ?_
        have S := ((S.nil).add (S.get 4 _ rfl)).add (S.get 30 _ rfl)
        refine env_gen (C := fun a => Code.wp Try.prog _ _ a _) S ?_
        clear S; intro a S
        refine wp_cond_true (S.get 30 _ rfl) (wp_seq (wp_region_list ?_))
        refine wpl_val (ex_build (us := clN) (by simpa using cl_builtN) _) ?_
        have S := S.put (by decide : 31 < 55) (.agg (List.toArray clN))
        refine wpl_store (off := 0) (n := 8) rfl 31 (.tmp 4) (.tmp 31) rfl (S.get 4 _ rfl) (S.get 31 _ rfl) clN [] clN [] rfl clN_one (by kernel_rfl) rfl (by rw [List.append_nil]; exact B4) rfl rfl ?_
        intro UZ BZ gZ _
        rw [List.nil_append, List.append_nil] at BZ
        rw [put_none]
        refine wpl_val (ex_assign (v := (.bool false)) rfl _) ?_
        have S := S.put (by decide : 5 < 55) (.bool false)
        refine wpl_nil (wp_ret ?_)
        have hcn : cnB nn ps = false := by have h0 : (m : Int) = 0 := (by simpa using hb5); unfold cnB grB; rw [decide_eq_false (by omega : ¬ 0 < ps.length)]; simp
        refine ret_two (P := Try.prog) (fn := Try.f5) (R := fun e V => ∃ us, e = .returned (.tuple #[vA us, .bool (cnB nn ps)]) ∧ mCluster.own V (fun q => w.heap.size ≤ q ∧ q < V.heap.size) us (cnX nn ps) ∧ Below w.heap.size w V) (t := 31) (n := 8) rfl ⟨by kernel_rfl, by kernel_rfl⟩ rfl (S.get 4 _ rfl) (S.get 5 _ rfl) BZ S.df ?_
        refine ⟨clN, by rw [hcn], ?_, M.grown gZ M.size (fun q hq => by have := Option.some.inj hq; omega)⟩
        unfold cnX
        rw [hcn]
        exact clN_own
      | false =>
        have hm0 : 0 < m := by
          have h0 : ¬ (m : Int) = 0 := by simpa using hb5
          omega
        have hgr : grB ps [] = true := by
          unfold grB
          rw [hb2, decide_eq_true (by omega : 0 < ps.length)]
          rfl
        obtain ⟨pa, oa, qa, hae, hpa, hqa, hca⟩ := rowI (hR.later M) (m - 1) (by omega)
        have hpm : prI ps m = qa := by
          have h := prI_next hqa
          rwa [Nat.sub_add_cancel (by omega)] at h
        have hi1 : ((m : Int) - 1) = ((m - 1 : Nat) : Int) := by omega
        refine env_gen (C := fun a => wpList Try.prog _ _ _ a _) S ?_
        clear S; intro a S
        refine wg_yes (j := 13) (t := 21) (b := false) rfl (S.get 21 _ rfl) (by rw [S.sz]; decide) (ex_move (S.get 1 _ rfl) _) ?_
        have S := S.put (by decide : 22 < 55) (.slice a0 m c0)
        refine env_gen (C := fun a => wpList Try.prog _ _ _ a _) S ?_
        clear S; intro a S
        refine wg_yes (j := 13) (t := 21) (b := false) rfl (S.get 21 _ rfl) (by rw [S.sz]; decide) (ex_move (S.get 1 _ rfl) _) ?_
        have S := S.put (by decide : 23 < 55) (.slice a0 m c0)
        refine env_gen (C := fun a => wpList Try.prog _ _ _ a _) S ?_
        clear S; intro a S
        refine wg_yes (j := 13) (t := 21) (b := false) rfl (S.get 21 _ rfl) (by rw [S.sz]; decide) (ex_len (by kernel_rfl) (S.get 23 _ rfl) _) ?_
        have S := S.put (by decide : 24 < 55) (.int .i64 m)
        refine env_gen (C := fun a => wpList Try.prog _ _ _ a _) S ?_
        clear S; intro a S
        refine wg_yes (j := 13) (t := 21) (b := false) rfl (S.get 21 _ rfl) (by rw [S.sz]; decide) (ex_bin (u := .int .i64 m) (v := .int .i64 1) (S.get 24 _ rfl) rfl _ (run_sub _ (by omega) (by omega))) ?_
        have S := S.put (by decide : 25 < 55) (.int .i64 ((m : Int) - 1))
        refine env_gen (C := fun a => wpList Try.prog _ _ _ a _) S ?_
        clear S; intro a S
        have zq0 : a.eval (.tmp 22) = .slice (some ⟨pa, oa, none⟩) m c0 := by rw [← hae]; exact S.get 22 _ rfl
        have zq1 : a.eval (.tmp 25) = .int .i64 ((m - 1 : Nat) : Int) := by rw [← hi1]; exact S.get 25 _ rfl
        refine wg_yes (j := 13) (t := 21) (b := false) rfl (S.get 21 _ rfl) (by rw [S.sz]; decide) (ex_index (k := 1) (e := 3) (by kernel_rfl) (by kernel_rfl) zq0 zq1 (by omega) _) ?_
        have S := S.put (by decide : 26 < 55) (.pointer (some ⟨pa, oa + (m - 1) * 1, none⟩))
        refine env_gen (C := fun a => wpList Try.prog _ _ _ a _) S ?_
        clear S; intro a S
        refine wg_yes (j := 13) (t := 21) (b := false) rfl (S.get 21 _ rfl) (by rw [S.sz]; decide) (ex_load (S.get 26 _ rfl) ⟨by kernel_rfl, by kernel_rfl⟩ _ (by rw [Nat.mul_one]; exact hca)) ?_
        have S := S.put (by decide : 27 < 55) (.int .i64 qa)
        refine env_gen (C := fun a => wpList Try.prog _ _ _ a _) S ?_
        clear S; intro a S
        refine wg_yes (j := 13) (t := 21) (b := false) rfl (S.get 21 _ rfl) (by rw [S.sz]; decide) (ex_move (S.get 0 _ rfl) _) ?_
        have S := S.put (by decide : 28 < 55) (.int .i64 nn)
        refine env_gen (C := fun a => wpList Try.prog _ _ _ a _) S ?_
        clear S; intro a S
        refine wg_yes (j := 13) (t := 21) (b := false) rfl (S.get 21 _ rfl) (by rw [S.sz]; decide) (ex_bin (u := .int .i64 qa) (v := .int .i64 nn) (S.get 27 _ rfl) (S.get 28 _ rfl) _ (run_gtr _)) ?_
        have S := S.put (by decide : 29 < 55) (.bool (decide (qa > nn)))
        refine env_gen (C := fun a => wpList Try.prog _ _ _ a _) S ?_
        clear S; intro a S
        refine wpl_val (ex_pickF (v := .bool (decide (qa > nn))) (S.get 21 _ rfl) (S.get 29 _ rfl) _) ?_
        have S := S.put (by decide : 30 < 55) (.bool (decide (qa > nn)))
        refine env_gen (C := fun a => wpList Try.prog _ _ _ a _) S ?_
        clear S; intro a S
        generalize hb4 : decide (qa > nn) = b4 at S
        cases b4 with
        | true =>
          refine wpl_nil ?_
          have S := ((S.nil).add (S.get 4 _ rfl)).add (S.get 30 _ rfl)
          refine env_gen (C := fun a => Code.wp Try.prog _ _ a _) S ?_
          clear S; intro a S
          refine wp_cond_true (S.get 30 _ rfl) (wp_seq (wp_region_list ?_))
          refine wpl_val (ex_build (us := clN) (by simpa using cl_builtN) _) ?_
          have S := S.put (by decide : 31 < 55) (.agg (List.toArray clN))
          refine wpl_store (off := 0) (n := 8) rfl 31 (.tmp 4) (.tmp 31) rfl (S.get 4 _ rfl) (S.get 31 _ rfl) clN [] clN [] rfl clN_one (by kernel_rfl) rfl (by rw [List.append_nil]; exact B4) rfl rfl ?_
          intro UZ BZ gZ _
          rw [List.nil_append, List.append_nil] at BZ
          rw [put_none]
          refine wpl_val (ex_assign (v := (.bool false)) rfl _) ?_
          have S := S.put (by decide : 5 < 55) (.bool false)
          refine wpl_nil (wp_ret ?_)
          have hcn : cnB nn ps = false := by unfold cnB; have := of_decide_eq_true hb4; rw [hb1, hgr, ← hm, hpm, decide_eq_false (by omega)]; rfl
          refine ret_two (P := Try.prog) (fn := Try.f5) (R := fun e V => ∃ us, e = .returned (.tuple #[vA us, .bool (cnB nn ps)]) ∧ mCluster.own V (fun q => w.heap.size ≤ q ∧ q < V.heap.size) us (cnX nn ps) ∧ Below w.heap.size w V) (t := 31) (n := 8) rfl ⟨by kernel_rfl, by kernel_rfl⟩ rfl (S.get 4 _ rfl) (S.get 5 _ rfl) BZ S.df ?_
          refine ⟨clN, by rw [hcn], ?_, M.grown gZ M.size (fun q hq => by have := Option.some.inj hq; omega)⟩
          unfold cnX
          rw [hcn]
          exact clN_own
        | false =>
          refine wpl_nil ?_
          refine wp_cond_false (S.get 30 _ rfl) (wp_skip ?_)
          have S := (((S.nil).add (S.get 0 _ rfl)).add (S.get 1 _ rfl)).add (S.get 4 _ rfl)
          refine env_gen (C := fun a => Code.wp Try.prog _ _ a _) S ?_
          clear S; intro a S
          refine wp_seq (wp_region_list ?_)
          refine wpl_val (ex_zeroS _) ?_
          have S := S.put (by decide : 32 < 55) (.slice (some ⟨V3.heap.size, 0, none⟩) 0 0)
          refine wpl_val (ex_move (S.get 1 _ rfl) _) ?_
          have S := S.put (by decide : 33 < 55) (.slice a0 m c0)
          have hbn := below_new V3 (.cells #[] 3)
          obtain ⟨ga, gc, T, hrun, OG, hgT, _⟩ := app_rowG Try.tyI (V3.alloc (.cells #[] 3)) V3.heap.size 22 22 (some ⟨V3.heap.size, 0, none⟩) 0 0 m [] ps (.slice a0 m c0) rfl hm (own_zeroG KI V3 V3.heap.size _ (Nat.le_refl _)) (src_rowG Try.tyI.1 m c0 (by decide) hm ((hR.later M).later hbn) hc0) (by omega) (by simp)
          rw [Nat.zero_add] at hrun OG
          rw [List.nil_append] at OG
          have zq0 : Act.eval _ (.tmp 32) = .slice (some ⟨V3.heap.size, 0, none⟩) 0 0 := S.get 32 _ rfl
          have zq1 : Act.eval _ (.tmp 33) = .slice a0 m c0 := S.get 33 _ rfl
          refine wpl_val (v := .slice ga m gc) (w' := T) (by simp only [execOp, resolve, invoke, builtin, Sem.run_bind, Sem.run_pure, Result.andThen_ok, List.map_toArray, List.map_cons, List.map_nil, zq0, zq1, hrun]) ?_
          have hbT : Below V3.heap.size V3 T := hbn.grown hgT (by simp) (fun q hq => by have h5 : V3.heap.size = q := Option.some.inj hq; omega)
          have S := S.put (by decide : 34 < 55) (.slice ga m gc)
          have B4 := B4.later hbT
          have M := M.trans (hbT.mono M.size)
          have z2 := hbT.size
          refine env_gen (C := fun a => wpList Try.prog _ _ _ a _) S ?_
          clear S; intro a S
          have zq2 : Act.eval _ (.tmp 34) = .slice ga m gc := S.get 34 _ rfl
          refine wpl_val (ex_build (us := (gcs ga none m gc 0)) (by simp only [List.map_toArray, List.map_cons, List.map_nil, zq2]; exact gr_built ga m gc) _) ?_
          have S := S.put (by decide : 35 < 55) (.agg (List.toArray (gcs ga none m gc 0)))
          have zq3 : Act.eval _ (.tmp 35) = (.agg (List.toArray (gcs ga none m gc 0))) := S.get 35 _ rfl
          refine wpl_val (ex_build (us := ([.slice none 0 0] ++ ((gcs ga none m gc 0) ++ clT))) (by simp only [List.map_toArray, List.map_cons, List.map_nil, zq3]; exact cl_built ga none m gc 0) _) ?_
          have S := S.put (by decide : 36 < 55) (.agg (List.toArray ([.slice none 0 0] ++ ((gcs ga none m gc 0) ++ clT))))
          have OGp : ∀ q, ob (.slice ga m gc) q → q < T.heap.size := fun q hq => (OG.lt q hq).2
          have hw1 := M.size
          have OGq : ∀ q, ob (.slice ga m gc) q → w.heap.size < q := fun q hq => by have := (OG.lt q hq).1; have := hM0; omega
          refine wpl_alloc (zs := clN) (z := .agg clN.toArray) (by kernel_rfl) rfl ?_
          intro X3 B6 l4 n5
          have p6 : ∃ p, p = T.heap.size := ⟨_, rfl⟩
          obtain ⟨p6, ep6⟩ := p6
          rw [← ep6] at B6 ⊢
          have S := S.put (by decide : 6 < 55) (.pointer (some ⟨p6, 0, none⟩))
          refine wpl_store (off := 0) (n := 8) rfl 31 (.tmp 6) (.tmp 36) rfl (S.get 6 _ rfl) (S.get 36 _ rfl) ([.slice none 0 0] ++ ((gcs ga none m gc 0) ++ clT)) [] (clN) [] rfl (cl_one _ _ _ _ _ _ _ _) (by kernel_rfl) rfl (by rw [List.append_nil]; exact B6) rfl rfl ?_
          intro U6 B6 g7 _
          rw [List.nil_append, List.append_nil] at B6
          rw [put_none]
          have h8 : Below T.heap.size T U6 := l4.grown g7 l4.size (fun q hq => by have := Option.some.inj hq; omega)
          have B4 := B4.later h8
          have M := M.trans (h8.mono M.size)
          have OG := OG.later h8
          have z9 := h8.size
          refine wpl_nil ?_
          have S := (((S.nil).add (S.get 0 _ rfl)).add (S.get 4 _ rfl)).add (S.get 6 _ rfl)
          refine env_gen (C := fun a => Code.wp Try.prog _ _ a _) S ?_
          clear S; intro a S
          have hnn : nn = ((nn.toNat : Nat) : Int) ∧ nn.toNat ≤ 7 := by
            have h := hb1
            unfold inB at h
            simp only [Bool.and_eq_true, decide_eq_true_eq] at h
            omega
          obtain ⟨hnn, hn7⟩ := hnn
          have b4l := B4.lt
          have b6l := B6.lt
          have K : Cl ga none m gc 0 ps w.heap.size U6.heap.size w.heap.size p6 p6 1 (fun q => ob (.slice ga m gc) q) := ⟨hm, hl, OG.caps.2.2.2, fun _ => rfl, hgr, by omega, b6l, .inl ⟨rfl, rfl⟩, ⟨by omega, b4l⟩, fun q hq => ⟨by have := OGq q hq; omega, (OG.lt q hq).2, by have := OGp q hq; omega⟩⟩
          have HO := own_int OG (by omega) (fun q => ob (.slice ga m gc) q) (fun q hq => hq)
          have HD : Dl w ga none m gc 0 ps w.heap.size U6.heap.size w.heap.size p6 p6 1 (fun q => ob (.slice ga m gc) q) clT clN 0 U6 := ⟨⟨none, 0, [], fun _ _ => False, Rw.nil _ _ _, by rw [List.nil_append]; exact B6⟩, Box.seg (us := [.slice none 0 0]) (ts := clT) B6 rfl, B6.lt, B4, HO, M, Nat.le_refl _, M.size⟩
          refine cn_loop (N := 55) (sc := 6) (ci := 7) (n := nn.toNat) (p4 := w.heap.size) (p6 := p6) (pC := p6) (D := fun i V => Dl w ga none m gc 0 ps w.heap.size U6.heap.size w.heap.size p6 p6 1 (fun q => ob (.slice ga m gc) q) clT clN i V) (by decide) (by decide) hn7 ⟨(put_ne (by decide)).trans (by rw [← hnn]; exact S.get 0 _ rfl), (put_ne (by decide)).trans (S.get 4 _ rfl), (put_ne (by decide)).trans (S.get 6 _ rfl), (put_ne (by decide)).trans (S.get 6 _ rfl), put_eq (by rw [S.sz]; decide), put_df.trans S.df, put_sz.trans S.sz, by decide, by decide⟩ HD ?_ hpan ?_
          · intro i a V hi Sa Ha Q2 hk hp
            exact s_round K Sa Ha ⟨rfl, rfl, rfl⟩ (by omega) hp hk
          intro a V Sa Ha
          obtain ⟨ra, rc, rs, G, hRw, hBx⟩ := Ha.row
          rw [List.nil_append] at hBx
          have b4 := Ha.z4
          refine wp_seq (wp_region_list ?_)
          refine wpl_val (ex_agg (us := ([.slice ra nn.toNat rc] ++ ((gcs ga none m gc 0) ++ clT))) (n := 8) Sa.eC ⟨by kernel_rfl, by kernel_rfl⟩ rfl _ (box_seg hBx)) ?_
          have S1 := Sa.put (by decide : 8 < 54) (.agg (List.toArray ([.slice ra nn.toNat rc] ++ ((gcs ga none m gc 0) ++ clT))))
          refine wpl_store (off := 0) (n := 8) rfl 31 (.tmp 4) (.tmp 54) rfl S1.s4 (put_eq (by rw [Sa.sz]; decide)) ([.slice ra nn.toNat rc] ++ ((gcs ga none m gc 0) ++ clT)) [] clN [] rfl (cl_one _ _ _ _ _ _ _ _) (by kernel_rfl) rfl (by rw [List.append_nil]; exact b4) rfl rfl ?_
          intro U hU hg _
          rw [List.nil_append, List.append_nil] at hU
          rw [put_none]
          refine wpl_val (ex_assign (v := (.bool true)) rfl _) ?_
          refine wpl_nil (wp_ret ?_)
          have hcn : cnB nn ps = true := by
            have := of_decide_eq_false hb4
            unfold cnB
            rw [hb1, hgr, ← hm, hpm, decide_eq_true (by omega)]
            rfl
          have hgs := hg.size
          have hds := Ha.d
          have hms := Ha.m.size
          refine ret_two (P := Try.prog) (fn := Try.f5) (R := fun e V => ∃ us, e = .returned (.tuple #[vA us, .bool (cnB nn ps)]) ∧ mCluster.own V (fun q => w.heap.size ≤ q ∧ q < V.heap.size) us (cnX nn ps) ∧ Below w.heap.size w V) (t := 31) (n := 8) rfl ⟨by kernel_rfl, by kernel_rfl⟩ rfl ((put_ne (by decide)).trans S1.s4) (put_eq (by rw [S1.sz]; decide)) hU (put_df.trans S1.df) ⟨([.slice ra nn.toNat rc] ++ ((gcs ga none m gc 0) ++ clT)), by rw [hcn], ?_, Ha.m.grown hg hms (fun q hq => by have := Option.some.inj hq; omega)⟩
          unfold cnX
          rw [hcn, if_pos rfl]
          exact cl_of ((hRw.box hg b4l).all (by omega)) (mIntS.chg Ha.own (Chg.row hg) (fun q hq e => by have := OGq q hq; have e2 : q = w.heap.size := e; omega)) ⟨none, 0, rfl⟩ (fun q hq => ⟨by omega, hq.2⟩) (fun q hq => ⟨by have := OGq q hq; omega, by have := (K.fg q hq).2.1; omega⟩) (fun q hq h2 => by have := (K.fg q h2).2.1; omega)

end Go.Proofs.Ytmfbmnpfgbenmaa
