/-
  The regions of functions that copy a struct, look at two or reckon one's size: a law for each.
-/
import Derived.Test.YtjiplphfpkhmpaaGreatE1
import Derived.BigCall
namespace Go.Proofs.YtjiplphfpkhmpaaGreat
open Go.RowKit

/-- The offset of a struct's field. -/
def fldB (P : Program) (t : TypeId) (i off : Nat) : Bool :=
  (match P.underlying t with | some (.struct fs) => (match fs[i]? with | some f => (f.offset == off && (match P.info? f.type with | some j => j.size != 0 | none => false)) | none => false) | _ => false)
theorem fld_run {P : Program} {t : TypeId} {i off : Nat} (h : fldB P t i off = true) (p : Nat) (w : World) : (Instr.fieldAt t (.pointer (some ⟨p, 0, none⟩)) i).run P w = .ok (.pointer (some ⟨p, off, none⟩)) w := by
  unfold fldB at h
  cases hu : P.underlying t with
  | none => rw [hu] at h; cases h
  | some d =>
    rw [hu] at h
    cases d with
    | struct fs =>
      dsimp only at h
      cases hf : fs[i]? with
      | none => rw [hf] at h; cases h
      | some f =>
        rw [hf] at h
        dsimp only at h
        cases hj : P.info? f.type with
        | none => rw [hj] at h; simp at h
        | some j =>
          rw [hj] at h
          simp at h
          obtain ⟨h1, h2⟩ := h
          unfold Instr.fieldAt
          rw [Sem.run_bind, run_underlying hu w]
          simp [Result.andThen, hf, Instr.sureAddr, Sem.run_bind, fieldPlace, sizeOf, typeInfo, hj, h2, h1, add_E]
    | _ => cases h
/-- A function of the program. -/
def Fn (P : Program) (f : FuncId) : Prop := ∃ fn, P.funcs[f]? = some fn ∧ (fn.name == "runtime.NumGoroutine") = false ∧ fn.body.isNone = false
theorem Fn.run {P : Program} {f : FuncId} (h : Fn P f) (args : Array Value) (w : World) : (callFunc f args).run P w = .ok (.enter f args) w := by
  obtain ⟨fn, h1, h2, h3⟩ := h
  have h2' : ¬ fn.name = "runtime.NumGoroutine" := by simpa using h2
  have h3' : ¬ fn.body = none := fun e => by rw [e] at h3; cases h3
  unfold callFunc
  simp [Sem.run_bind, h1, h2', h3']

section
variable {P : Program} {ops : Array Oper} {rest : List Oper} {a : Act} {w : World} {Q : Exit → Act → World → Prop} {d : Option Tmp} {ty : TypeId} {ps : String} {af : Array Edge}

theorem wpl_val {op : Op} {v : Value} {w' : World} (h : (execOp a.eval ⟨d, op, ty, ps, af, none⟩).run P w = .ok (.value v) w') (k : wpList P ops Q rest (a.put d v) w') : wpList P ops Q (⟨d, op, ty, ps, af, none⟩ :: rest) a w :=
  wpList_plain rfl fun _ hK => by
    unfold Oper.wp
    rw [h]
    exact hK _ _ k
theorem wpl_move {x : Operand} (k : wpList P ops Q rest (a.put d (a.eval x)) w) : wpList P ops Q (⟨d, .move x, ty, ps, af, none⟩ :: rest) a w := wpl_val (w' := w) rfl k
theorem wpl_assign {x : Operand} (k : wpList P ops Q rest (a.put d (a.eval x)) w) : wpList P ops Q (⟨d, .assign x, ty, ps, af, none⟩ :: rest) a w := wpl_val (w' := w) rfl k
theorem wpl_field {t : TypeId} {x : Operand} {i off p : Nat} (hx : a.eval x = .pointer (some ⟨p, 0, none⟩)) (h : fldB P t i off = true) (k : wpList P ops Q rest (a.put d (.pointer (some ⟨p, off, none⟩))) w) : wpList P ops Q (⟨d, .fieldAddr t x i, ty, ps, af, none⟩ :: rest) a w :=
  wpl_val (w' := w) (by simp [execOp, hx, fld_run h p w]) k
theorem wpl_box {t : TypeId} {x : Operand} {us : List Value} (hx : (a.eval x).cells = us.toArray) (k : ∀ V, Box V w.heap.size us → Below w.heap.size w V → V.heap.size = w.heap.size + 1 → wpList P ops Q rest (a.put d (.pointer (some ⟨w.heap.size, 0, none⟩))) V) : wpList P ops Q (⟨d, .box t x, ty, ps, af, none⟩ :: rest) a w :=
  wpl_val (w' := w.alloc (.cells us.toArray t)) (by simp [execOp, Instr.box, newVar, newRow, newObj, Sem.run, hx]) (k _ (box_new _ _ _) (below_new _ _) (by simp))
theorem wpl_alloc {t : TypeId} {zs : List Value} {z : Value} (hz : (P.info? t).map (·.zero) = some (some z)) (hc : z.cells = zs.toArray) (k : ∀ V, Box V w.heap.size zs → Below w.heap.size w V → V.heap.size = w.heap.size + 1 → wpList P ops Q rest (a.put d (.pointer (some ⟨w.heap.size, 0, none⟩))) V) : wpList P ops Q (⟨d, .alloc t, ty, ps, af, none⟩ :: rest) a w := by
  obtain ⟨i, hi, hz⟩ := Option.map_eq_some_iff.1 hz
  exact wpl_val (w' := w.alloc (.cells zs.toArray t)) (by simp [execOp, Instr.alloc, zeroValue, typeInfo, newVar, newRow, newObj, Sem.run_bind, Sem.run, hi, hz, hc]) (k _ (box_new _ _ _) (below_new _ _) (by simp))
theorem wpl_call {f : FuncId} {xs : Array Operand} {ats : Array TypeId} {R : Ending → World → Prop} (hf : Fn P f) (h : Calls P f (xs.map a.eval) w R) (k : ∀ e V, R e V → ∃ v, e = .returned v ∧ wpList P ops Q rest (a.put d v) V) :
    wpList P ops Q (⟨d, .call { callee := .value (.func f), args := xs, argTypes := ats }, ty, ps, af, none⟩ :: rest) a w :=
  wpList_plain rfl fun _ hK => by
    unfold Oper.wp
    rw [execOp_call_go, show (#[] ++ xs.map a.eval ++ #[] : Array Value) = xs.map a.eval by simp, hf.run]
    show Calls P f _ w _
    refine h.mono ?_
    intro e V hr
    obtain ⟨v, rfl, hk⟩ := k e V hr
    exact hK _ _ hk
theorem wpl_nil (k : Q .normal a w) : wpList P ops Q [] a w := k

/-- What lies in the slots of such a function: the argument's box, the result's, the copy's. -/
structure SlT (a : Act) (N p0 p1 p2 : Nat) : Prop where
  s1 : a.eval (.tmp 1) = .pointer (some ⟨p0, 0, none⟩)
  s2 : a.eval (.tmp 2) = .pointer (some ⟨p1, 0, none⟩)
  s3 : a.eval (.tmp 3) = .pointer (some ⟨p2, 0, none⟩)
  df : a.defers = []
  sz : a.tmps.size = N
theorem put_eq {a : Act} {t : Nat} {v : Value} (h : t < a.tmps.size) : (a.put (some t) v).eval (.tmp t) = v := by
  simp [Act.put, Act.eval, h]
theorem put_ne {a : Act} {t u : Nat} {v : Value} (h : u ≠ t) : (a.put (some t) v).eval (.tmp u) = a.eval (.tmp u) := by
  simp [Act.put, Act.eval, Ne.symm h]
theorem put_sz {a : Act} {d : Option Tmp} {v : Value} : (a.put d v).tmps.size = a.tmps.size := by
  cases d <;> simp [Act.put]
theorem put_df {a : Act} {d : Option Tmp} {v : Value} : (a.put d v).defers = a.defers := by
  cases d <;> rfl
theorem SlT.put {a : Act} {N p0 p1 p2 t : Nat} (h : SlT a N p0 p1 p2) (ht : 3 < t) (v : Value) : SlT (a.put (some t) v) N p0 p1 p2 :=
  ⟨(put_ne (by omega)).trans h.s1, (put_ne (by omega)).trans h.s2, (put_ne (by omega)).trans h.s3, put_df.trans h.df, put_sz.trans h.sz⟩
theorem SlT.put0 {a : Act} {N p0 p1 p2 : Nat} (h : SlT a N p0 p1 p2) (v : Value) : SlT (a.put none v) N p0 p1 p2 := h

variable {y : Code} {N p0 p1 p2 : Nat} {t0 t1 t2 t3 t4 : TypeId} {s0 s1 s2 s3 s4 : String} {f0 f1 f2 f3 f4 : Array Edge} {id : Nat}

/-- A cell is copied. -/
theorem reg_copy {tA tO tx : TypeId} {d0 d1 d2 i off : Nat} (hs : SlT a N p0 p1 p2) (hd : 3 < d0 ∧ d0 < d1 ∧ d1 < d2 ∧ d2 < N) (hA : fldB P tA i off = true) (hO : fldB P tO i off = true) (ht : Sca P tx) (v : Value) (hc : w.cell? ⟨p0, off, none⟩ = some v) (h1 : v.oneCell' = true)
    {az bs cs : List Value} (hb : Box w p2 (az ++ (bs ++ cs))) (ha : az.length = off) (hl : bs.length = 1)
    (k : ∀ a' V, SlT a' N p0 p1 p2 → Box V p2 (az ++ ([v] ++ cs)) → w.grownBy V (some p2) → V.heap.size = w.heap.size → y.wp P Q a' V) :
    Code.wp P ((Code.region id #[⟨some d0, .fieldAddr tA (.tmp 1) i, t0, s0, f0, none⟩, ⟨some d1, .load tx (.tmp d0), t1, s1, f1, none⟩, ⟨some d2, .fieldAddr tO (.tmp 3) i, t2, s2, f2, none⟩, ⟨none, .store tx (.tmp d2) (.tmp d1), t3, s3, f3, none⟩] false).seq y) Q a w := by
  obtain ⟨k0, k1, k2, k3⟩ := hd
  have hz := hs.sz
  refine wp_seq (wp_region_list ?_)
  refine wpl_field hs.s1 hA ?_
  refine wpl_loadS rfl tx (.tmp d0) rfl (put_eq (by omega)) v ht hc ?_
  have g := (hs.put (by omega : 3 < d0) (.pointer (some ⟨p0, off, none⟩))).put (by omega : 3 < d1) v
  refine wpl_field g.s3 hO ?_
  have e1 : v.cells = [v].toArray := by cases v <;> first | rfl | cases h1
  refine wpl_store rfl tx (.tmp d2) (.tmp d1) rfl (put_eq (by rw [put_sz, put_sz]; omega)) ((put_ne (by omega)).trans (put_eq (by rw [put_sz]; omega))) [v] az bs cs e1 (one1 h1) ht.2 rfl hb ha hl ?_
  intro V hV hg hz
  exact wpl_nil (k _ V (g.put (by omega : 3 < d2) _) hV hg hz)

/-- A part is copied by a call. -/
theorem reg_call {tA tO tx tz : TypeId} {ats : Array TypeId} {f : FuncId} {d0 d1 d2 d3 i off : Nat} (hs : SlT a N p0 p1 p2) (hd : 3 < d0 ∧ d0 < d1 ∧ d1 < d2 ∧ d2 < d3 ∧ d3 < N) (hA : fldB P tA i off = true) (hO : fldB P tO i off = true)
    {α : Type} (T : Cd α) (v : List Value → Value) {n : Nat} (hk : T.k = n) (hv : ∀ us : List Value, us.length = n → One us → (v us).cells = us.toArray) (hf : Fn P f) (hC : ToC P T v f) (hz : (P.info? tz).map (·.size) = some n)
    (us : List Value) (x : α) (hr : T.rep w 0 us x) (hx : T.tot x ≤ 1048576)
    (hld : (us.length = n → (loadVar tx ⟨p0, off, none⟩).run P w = .ok (v us) w))
    {az bs cs : List Value} (hb : Box w p2 (az ++ (bs ++ cs))) (ha : az.length = off) (hl : bs.length = n)
    (k : ∀ a' V W vs, SlT a' N p0 p1 p2 → Below w.heap.size w V → T.rep V w.heap.size vs x → Box W p2 (az ++ (vs ++ cs)) → V.grownBy W (some p2) → W.heap.size = V.heap.size → y.wp P Q a' W) :
    Code.wp P ((Code.region id #[⟨some d0, .fieldAddr tA (.tmp 1) i, t0, s0, f0, none⟩, ⟨some d1, .load tx (.tmp d0), t1, s1, f1, none⟩, ⟨some d2, .call { callee := .value (.func f), args := #[.tmp d1], argTypes := ats }, t2, s2, f2, none⟩, ⟨some d3, .fieldAddr tO (.tmp 3) i, t3, s3, f3, none⟩, ⟨none, .store tz (.tmp d3) (.tmp d2), t4, s4, f4, none⟩] false).seq y) Q a w := by
  obtain ⟨k0, k1, k2, k3, k4⟩ := hd
  have hsz := hs.sz
  have hul := (T.len hr).trans hk
  refine wp_seq (wp_region_list ?_)
  refine wpl_field hs.s1 hA ?_
  refine wpl_val (v := v us) (w' := w) (by simp only [execOp, put_eq (show d0 < a.tmps.size by omega), Instr.loadAt, Instr.sureAddr, Sem.run_bind, Sem.run_pure, Result.andThen_ok, hld hul]) ?_
  have g := (hs.put (by omega : 3 < d0) (.pointer (some ⟨p0, off, none⟩))).put (by omega : 3 < d1) (v us)
  refine wpl_call hf (R := fun e w' => ∃ vs, e = .returned (v vs) ∧ T.rep w' w.heap.size vs x ∧ Below w.heap.size w w') ?_ ?_
  · have := hC us x w hr hx
    simpa only [List.map_toArray, List.map_cons, List.map_nil, put_eq (show d1 < (a.put (some d0) (.pointer (some ⟨p0, off, none⟩))).tmps.size by rw [put_sz]; omega)] using this
  rintro e V ⟨vs, rfl, hrv, hbl⟩
  refine ⟨_, rfl, ?_⟩
  have g2 := g.put (by omega : 3 < d2) (v vs)
  refine wpl_field g2.s3 hO ?_
  have hvl := (T.len hrv).trans hk
  refine wpl_store rfl tz (.tmp d3) (.tmp d2) rfl (put_eq (by rw [put_sz, put_sz, put_sz]; omega)) ((put_ne (by omega)).trans (put_eq (by rw [put_sz, put_sz]; omega))) vs az bs cs (hv vs hvl (T.one hrv)) (T.one hrv) hz hvl (hb.later hbl) ha hl ?_
  intro W hW hg hz
  exact wpl_nil (k _ V W vs (g2.put (by omega : 3 < d3) _) hbl hrv hW hg hz)

/-- The argument's box, the result's, the copy's. -/
theorem reg_head {tA tO : TypeId} {us zs : List Value} {z : Value} {id' : Nat} (hx : (a.eval (.tmp 0)).cells = us.toArray) (hN : 3 < N) (hsz : a.tmps.size = N) (hdf : a.defers = []) (hz : (P.info? tO).map (·.zero) = some (some z)) (hc : z.cells = zs.toArray)
    (k : ∀ a' V, SlT a' N w.heap.size (w.heap.size + 1) (w.heap.size + 2) → Box V w.heap.size us → Box V (w.heap.size + 1) zs → Box V (w.heap.size + 2) zs → Below w.heap.size w V → V.heap.size = w.heap.size + 3 → y.wp P Q a' V) :
    Code.wp P ((Code.region id #[⟨some 1, .box tA (.tmp 0), t0, s0, f0, none⟩, ⟨some 2, .alloc tO, t1, s1, f1, none⟩] false).seq ((Code.region id' #[⟨some 3, .alloc tO, t2, s2, f2, none⟩] false).seq y)) Q a w := by
  refine wp_seq (wp_region_list ?_)
  refine wpl_box hx ?_
  intro V1 b1 l1 z1
  refine wpl_alloc hz hc ?_
  intro V2 b2 l2 z2
  refine wpl_nil (wp_seq (wp_region_list ?_))
  refine wpl_alloc hz hc ?_
  intro V3 b3 l3 z3
  refine wpl_nil (k _ V3 ⟨?_, ?_, ?_, ?_, ?_⟩ ((b1.later l2).later l3) ?_ ?_ ?_ (by omega))
  · exact (put_ne (by omega)).trans ((put_ne (by omega)).trans (put_eq (by omega)))
  · rw [z1]; exact (put_ne (by omega)).trans (put_eq (by rw [put_sz]; omega))
  · rw [z2, z1]; exact put_eq (by rw [put_sz, put_sz]; omega)
  · exact put_df.trans (put_df.trans (put_df.trans hdf))
  · exact put_sz.trans (put_sz.trans (put_sz.trans hsz))
  · rw [z1] at b2; exact b2.later l3
  · rw [z2, z1] at b3; exact b3
  · exact l1.trans ((l2.trans (l3.mono (by omega))).mono (by omega))
/-- The copy is the answer. -/
theorem reg_tail {tO : TypeId} {fn : Func} {R : Ending → World → Prop} {d0 : Nat} {us zs : List Value} {n : Nat} (hs : SlT a N p0 p1 p2) (hd : 3 < d0 ∧ d0 < N) (hA : Agg P tO n) (hn : us.length = n) (h1 : One us) (hzl : zs.length = n) (hb : Box w p2 us) (hb1 : Box w p1 zs)
    (hres : fn.results = #[.cell 2 tO]) (k : ∀ V, w.grownBy V (some p1) → V.heap.size = w.heap.size → R (.returned (.agg us.toArray)) V) :
    Code.wp P ((Code.region id #[⟨some d0, .load tO (.tmp 3), t0, s0, f0, none⟩, ⟨none, .store tO (.tmp 2) (.tmp d0), t1, s1, f1, none⟩] false).seq Code.ret) (bodyPost P fn R) a w := by
  obtain ⟨k0, k1⟩ := hd
  have hsz := hs.sz
  subst hn
  refine wp_seq (wp_region_list ?_)
  have hseg : Seg w p2 0 us := Box.seg (us := []) (ts := []) (by simpa using hb) rfl
  refine wpl_load rfl tO (.tmp 3) rfl hs.s3 us hA rfl hseg ?_
  refine wpl_store rfl tO (.tmp 2) (.tmp d0) rfl ((put_ne (by omega)).trans hs.s2) (put_eq (by omega)) us [] zs [] rfl h1 hA.2 rfl (by simpa using hb1) rfl hzl ?_
  intro V hV hg hz
  refine wpl_nil (wp_ret ?_)
  have hV' : Box V p1 us := by simpa using hV
  have e2 : (a.put (some d0) (.agg us.toArray)).eval (.tmp 2) = .pointer (some ⟨p1, 0, none⟩) := (put_ne (by omega)).trans hs.s2
  refine bodyPost_ret (v := .agg us.toArray) ?_ (by show a.defers = []; exact hs.df) (k V hg hz)
  have hl : (loadVar tO ⟨p1, 0, none⟩).run P V = .ok (.agg us.toArray) V := run_loadE (P := P) V hA (Box.seg (us := []) (ts := []) (by simpa using hV') rfl)
  have e3 : ((a.put (some d0) (.agg us.toArray)).put none undef).tmps.getD 2 undef = .pointer (some ⟨p1, 0, none⟩) := e2
  have e4 : ((a.put (some d0) (.agg us.toArray)).put none undef).tmps[2]?.getD undef = .pointer (some ⟨p1, 0, none⟩) := by simpa using e3
  simp [results, hres, e4, asAddr, hl]
end

end Go.Proofs.YtjiplphfpkhmpaaGreat
