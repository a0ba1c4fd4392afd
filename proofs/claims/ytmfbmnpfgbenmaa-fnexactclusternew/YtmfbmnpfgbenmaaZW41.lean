/-
  A round of ClusterNew: one more replica.
-/
import Derived.Test.YtmfbmnpfgbenmaaZW40
namespace Go.Proofs.Ytmfbmnpfgbenmaa
open Go.ChangeShapes Go.WideShapes Go.ChangeAt Go.RowKit Go.Joins Go.Deep

section
variable {P : Program} {ops : Array Oper} {Q : Exit → Act → World → Prop} {S : World → Prop} {fuel : Nat} {listed : Array Bool} {a : Act} {w : World}
/-- One that may wait, or the other. -/
theorem dr_or (i j d : Nat) {op : Op} {ty : TypeId} {ps : String} {af : Array Edge} {v : Value} (hi : ops[i]? = some (⟨some d, op, ty, ps, af, none⟩ : Oper)) (hr : Region.ready .any ops listed = [i, j])
    (he : (execOp a.eval (⟨some d, op, ty, ps, af, none⟩ : Oper)).run P w = .ok (.value v) w) (hS : S w) (h1 : wpAnyH P .any ops Q S fuel (listed.setIfInBounds i true) (a.put (some d) v) w) (h2 : AllReadyH P .any ops Q S fuel listed a w [j]) : wpAnyH P .any ops Q S (fuel + 1) listed a w := by
  refine wpAnyH_ready hr (by simp) (AllReadyH.cons hi (fun K hK => ?_) h2)
  rw [if_pos (by simp [Region.wanted])]
  unfold Oper.wp
  rw [he]
  exact hK.out _ _ hS (fun _ => h1)
theorem dr_callA (i d : Nat) {f : FuncId} {xs : Array Operand} {ats : Array TypeId} {ty : TypeId} {ps : String} {af : Array Edge} {R : Ending → World → Prop} (hi : ops[i]? = some (⟨some d, .call { callee := .value (.func f), args := xs, argTypes := ats }, ty, ps, af, none⟩ : Oper)) (hf : Fn P f) (h : Calls P f (xs.map a.eval) w R)
    (k : ∀ e V, R e V → ∃ v, e = .returned v ∧ S V ∧ wpAnyH P .any ops Q S fuel (listed.setIfInBounds i true) (a.put (some d) v) V) : AllReadyH P .any ops Q S fuel listed a w [i] := by
  refine AllReadyH.cons hi (fun K hK => ?_) AllReadyH.nil
  rw [if_pos (by simp [Region.wanted])]
  unfold Oper.wp
  rw [execOp_call_go, show (#[] ++ xs.map a.eval ++ #[] : Array Value) = xs.map a.eval by simp, hf.run]
  show Calls P f _ w _
  refine h.mono ?_
  intro e V hr
  obtain ⟨v, rfl, hS, hk⟩ := k e V hr
  exact hK.out _ _ hS (fun _ => hk)
theorem dr_doA (i d : Nat) {op : Op} {ty : TypeId} {ps : String} {af : Array Edge} (hi : ops[i]? = some (⟨some d, op, ty, ps, af, none⟩ : Oper)) {v : Value} {V : World}
    (he : (execOp a.eval (⟨some d, op, ty, ps, af, none⟩ : Oper)).run P w = .ok (.value v) V)
    (k : S V ∧ wpAnyH P .any ops Q S fuel (listed.setIfInBounds i true) (a.put (some d) v) V) : AllReadyH P .any ops Q S fuel listed a w [i] := by
  refine AllReadyH.cons hi (fun K hK => ?_) AllReadyH.nil
  rw [if_pos (by simp [Region.wanted])]
  unfold Oper.wp
  rw [he]
  exact hK.out _ _ k.1 (fun _ => k.2)
end

/-- What stays as it is. -/
structure Cl (ap ab : Option Addr) (np cp cb : Nat) (ps : List Int) (D0 D p4 pC pg og : Nat) (FG : Nat → Prop) : Prop where
  n : np = ps.length
  l : np ≤ 1048576
  p : ap = none → cp = 0
  b : ab = none → cb = 0
  r : grB ps [] = true
  c0 : D0 ≤ pC
  c1 : pC < D
  g : (pg = pC ∧ og = 1) ∨ (pg ≠ pC ∧ pg < D)
  x4 : p4 ≠ pC ∧ p4 < D
  fg : ∀ q, FG q → D0 ≤ q ∧ q < D ∧ q ≠ pC
abbrev gcs (ap ab : Option Addr) (np cp cb : Nat) : List Value := [.slice ap np cp, .slice ab 0 cb]
/-- The memory, i replicas made. -/
structure Dl (w : World) (ap ab : Option Addr) (np cp cb : Nat) (ps : List Int) (D0 D p4 pC pg og : Nat) (FG : Nat → Prop) (tl zs : List Value) (i : Nat) (W : World) : Prop where
  row : ∃ a c rs G, Rw W D a i c (fun j => svY ((j : Int) + 1) (knX ps) 0) rs G ∧ Box W pC ([] ++ ([.slice a i c] ++ (gcs ap ab np cp cb ++ tl)))
  sg : Seg W pg og (gcs ap ab np cp cb)
  pl : pg < W.heap.size
  z4 : Box W p4 zs
  own : mIntS.own W FG [.slice ap np cp] ps
  m : Below D0 w W
  d : D ≤ W.heap.size
  d0 : D0 ≤ D
theorem Seg.latr {W V : World} {p o : Nat} {us : List Value} (h : Seg W p o us) (hp : p < W.heap.size) (hb : Below W.heap.size W V) : Seg V p o us := h.frm (Fr.of hb (B := 0)) (Nat.zero_le _) hp
theorem Dl.later {w : World} {ap ab : Option Addr} {np cp cb : Nat} {ps : List Int} {D0 D p4 pC pg og : Nat} {FG : Nat → Prop} {tl zs : List Value} {i : Nat} {W V : World} (h : Dl w ap ab np cp cb ps D0 D p4 pC pg og FG tl zs i W) (hb : Below W.heap.size W V) : Dl w ap ab np cp cb ps D0 D p4 pC pg og FG tl zs i V := by
  obtain ⟨a, c, rs, G, hR, hB⟩ := h.row
  have hd := h.d
  have h0 := h.d0
  exact ⟨⟨a, c, rs, G, hR.later hb, hB.later hb⟩, h.sg.latr h.pl hb, Nat.lt_of_lt_of_le h.pl hb.size, h.z4.later hb, mIntS.lat h.own hb, h.m.trans (hb.mono (by omega)), Nat.le_trans hd hb.size, h0⟩
theorem Dl.gf {w : World} {ap ab : Option Addr} {np cp cb : Nat} {ps : List Int} {D0 D p4 pC pg og : Nat} {FG : Nat → Prop} {tl zs : List Value} {i : Nat} {W : World} (h : Dl w ap ab np cp cb ps D0 D p4 pC pg og FG tl zs i W) (K : Cl ap ab np cp cb ps D0 D p4 pC pg og FG) : Gf W ap np cp ab cb ps := by
  obtain ⟨a, c, e, hr, _⟩ := row_int (mIntS.rep0 h.own)
  simp only [List.cons.injEq, Value.slice.injEq, and_true] at e
  obtain ⟨rfl, _, _⟩ := e
  exact ⟨K.n, hr, K.l, K.p, K.b⟩
/-- The row is appended to, and stored. -/
theorem Dl.next {w : World} {ap ab : Option Addr} {np cp cb : Nat} {ps : List Int} {D0 D p4 pC pg og : Nat} {FG : Nat → Prop} {tl zs : List Value} {i : Nat} {W U T V : World} {a' : Option Addr} {c' : Nat} {rs' : List RpC} {G' : Nat → Nat → Prop} (h : Dl w ap ab np cp cb ps D0 D p4 pC pg og FG tl zs i W) (K : Cl ap ab np cp cb ps D0 D p4 pC pg og FG)
    (hU : Below W.heap.size W U) (hT : Below D U T) (hR : Rw T D a' (i + 1) c' (fun j => svY ((j : Int) + 1) (knX ps) 0) rs' G') (hB : Box V pC ([] ++ ([.slice a' (i + 1) c'] ++ (gcs ap ab np cp cb ++ tl)))) (hg : T.grownBy V (some pC)) : Dl w ap ab np cp cb ps D0 D p4 pC pg og FG tl zs (i + 1) V := by
  have hd := h.d
  have h0 := h.d0
  have c0 := K.c0
  have c1 := K.c1
  have x4 := K.x4
  have s1 := hU.size
  have s2 := hT.size
  have s3 := hg.size
  have hWT : Below D W T := (hU.mono hd).trans hT
  have hblk : ∀ q, q < D → q ≠ pC → V.heap[q]? = W.heap[q]? := fun q hq hn => (hg.block q (by omega) (fun e => hn (Option.some.inj e))).trans (hWT.block q hq)
  refine ⟨⟨a', c', rs', G', hR.box hg c1, hB⟩, ?_, by have := h.pl; omega, ?_, mIntS.frm h.own (by omega) (fun q hq _ => hblk q (K.fg q hq).2.1 (K.fg q hq).2.2), (h.m.trans (hWT.mono h0)).grown hg (by have := h.m.size; omega) (fun q hq => by have := Option.some.inj hq; omega), by omega, h0⟩
  · rcases K.g with ⟨rfl, rfl⟩ | ⟨g1, g2⟩
    · exact Box.seg (us := [.slice a' (i + 1) c']) (ts := tl) hB rfl
    · exact fun j u hu => (cell_block (hblk pg g2 g1)).trans (h.sg j u hu)
  · obtain ⟨t, hz⟩ := h.z4
    exact ⟨t, (hblk p4 x4.2 x4.1).trans hz⟩
/-- The slots of the loop. -/
structure Cs (N sc ci n i p4 p6 pC : Nat) (a : Act) : Prop where
  s0 : a.eval (.tmp 0) = .int .i64 n
  s4 : a.eval (.tmp 4) = .pointer (some ⟨p4, 0, none⟩)
  s6 : a.eval (.tmp 6) = .pointer (some ⟨p6, 0, none⟩)
  eC : a.eval (.tmp sc) = .pointer (some ⟨pC, 0, none⟩)
  hi : a.eval (.tmp ci) = .int .i64 ((i : Int) + 1)
  df : a.defers = []
  sz : a.tmps.size = N
  k1 : sc ≤ 8
  k2 : ci ≤ 8
theorem Cs.put {N sc ci n i p4 p6 pC t : Nat} {a : Act} (S : Cs N sc ci n i p4 p6 pC a) (ht : 8 < t) (v : Value) : Cs N sc ci n i p4 p6 pC (a.put (some t) v) := by
  have k1 := S.k1
  have k2 := S.k2
  exact ⟨(put_ne (by omega)).trans S.s0, (put_ne (by omega)).trans S.s4, (put_ne (by omega)).trans S.s6, (put_ne (by omega)).trans S.eC, (put_ne (by omega)).trans S.hi, put_df.trans S.df, put_sz.trans S.sz, k1, k2⟩

def iOps (t0 t1 t2 t3 t4 t5 t6 t7 t8 t9 t10 t11 : TypeId) (s0 s1 s2 s3 s4 s5 s6 s7 s8 s9 s10 s11 : String) (at0 at1 at2 : Array TypeId) : Array Oper := #[⟨some 34, .fieldAddr 31 (.tmp 7) 0, t0, s0, #[], none⟩, ⟨some 35, .load 23 (.tmp 34), t1, s1, #[⟨0, .data⟩], none⟩, ⟨some 36, .move (.tmp 8), t2, s2, #[], none⟩, ⟨some 37, .load 25 (.tmp 6), t3, s3, #[], none⟩, ⟨some 38, .call { callee := .value (.func 27), args := #[.tmp 37], argTypes := at0 }, t4, s4, #[⟨3, .data⟩], none⟩, ⟨some 39, .call { callee := .value (.func 26), args := #[.tmp 36, .tmp 38], argTypes := at1 }, t5, s5, #[⟨2, .data⟩, ⟨4, .data⟩, ⟨4, .chain⟩], none⟩, ⟨some 40, .call { callee := .value (.func 28), args := #[], argTypes := at2 }, t6, s6, #[⟨5, .chain⟩], none⟩, ⟨some 41, .build 76 #[(0, .tmp 39), (1, .tmp 40), (4, .const (.bool true))], t7, s7, #[⟨5, .data⟩, ⟨6, .data⟩], none⟩, ⟨some 42, .buildSlice 23 1 #[(0, .tmp 41)], t8, s8, #[⟨7, .data⟩], none⟩, ⟨some 43, .call { callee := .builtin .append, args := #[.tmp 35, .tmp 42], argTypes := #[23, 23] }, t9, s9, #[⟨1, .data⟩, ⟨8, .data⟩, ⟨6, .chain⟩], none⟩, ⟨some 44, .fieldAddr 31 (.tmp 7) 0, t10, s10, #[⟨0, .phase⟩, ⟨1, .phase⟩, ⟨2, .phase⟩, ⟨3, .phase⟩, ⟨4, .phase⟩, ⟨5, .phase⟩, ⟨6, .phase⟩, ⟨7, .phase⟩, ⟨8, .phase⟩, ⟨9, .phase⟩], none⟩, ⟨none, .store 23 (.tmp 44) (.tmp 43), t11, s11, #[⟨10, .data⟩, ⟨9, .data⟩, ⟨9, .chain⟩, ⟨0, .phase⟩, ⟨1, .phase⟩, ⟨2, .phase⟩, ⟨3, .phase⟩, ⟨4, .phase⟩, ⟨5, .phase⟩, ⟨6, .phase⟩, ⟨7, .phase⟩, ⟨8, .phase⟩, ⟨9, .phase⟩], none⟩]
set_option maxRecDepth 10000 in
set_option maxHeartbeats 4000000 in
theorem i_round {t0 t1 t2 t3 t4 t5 t6 t7 t8 t9 t10 t11 : TypeId} {s0 s1 s2 s3 s4 s5 s6 s7 s8 s9 s10 s11 : String} {at0 at1 at2 : Array TypeId} {r0 : Nat} {w W : World} {a : Act} {Q : Exit → Act → World → Prop} {ap ab : Option Addr} {np cp cb : Nat} {ps : List Int} {D0 D p4 p6 pC pg og n i : Nat} {FG : Nat → Prop} {tl zs : List Value} (K : Cl ap ab np cp cb ps D0 D p4 pC pg og FG) (S : Cs 46 7 8 n i p4 p6 pC a) (H : Dl w ap ab np cp cb ps D0 D p4 pC pg og FG tl zs i W) (h6 : p6 = pg ∧ og = 0) (hi7 : i < 7) (hpn : ∀ c a d v w, Q (.panic c) (a.put d v) w → Q (.panic c) a w)
    (k : ∀ a V, Cs 46 7 8 n i p4 p6 pC a → Dl w ap ab np cp cb ps D0 D p4 pC pg og FG tl zs (i + 1) V → Q .normal a V) :
    Code.wp Try.prog (Code.region r0 (iOps t0 t1 t2 t3 t4 t5 t6 t7 t8 t9 t10 t11 s0 s1 s2 s3 s4 s5 s6 s7 s8 s9 s10 s11 at0 at1 at2) true) Q a W := by
  have hS0 : (fun V => Seg V pg og (gcs ap ab np cp cb)) W.drew := H.sg.latr H.pl (Below.refl _ W).drew
  have H := H.later (Below.refl _ W).drew
  refine wp_region_held_drew (S := fun V => Seg V pg og (gcs ap ab np cp cb)) (by kernel_rfl) hS0 (fun _ => ?_)
  generalize W.drew = W at H hS0 ⊢
  obtain ⟨ad, c, rs, G, hR, hB⟩ := H.row
  have hd := H.d
  have g1000 : i ≤ 1000 := by omega
  have hSg : ∀ V, Below W.heap.size W V → Seg V pg og (gcs ap ab np cp cb) := fun V hV => H.sg.latr H.pl hV
  have hin : inB ((i : Int) + 1) 1 7 = true := by
    unfold inB
    rw [decide_eq_true (by omega), decide_eq_true (by omega)]
    rfl
  have hld : ∀ (b : Act) (V : World), b.eval (.tmp 34) = .pointer (some ⟨pC, 0, none⟩) → Below W.heap.size W V → (execOp b.eval (⟨some 35, .load 23 (.tmp 34), t1, s1, #[⟨0, .data⟩], none⟩ : Oper)).run Try.prog V = .ok (.value (.slice ad i c)) V := fun b V hb hV =>
    ex_load hb ⟨by kernel_rfl, by kernel_rfl⟩ V (Seg.one (Box.seg (us := []) (vs := [.slice ad i c]) (hB.later hV) rfl))
  have stE : ∀ (b : Act) (V : World) (us : List Value) (B : Nat), Cs 46 7 8 n i p4 p6 pC b → b.eval (.tmp 35) = .slice ad i c → b.eval (.tmp 42) = .slice (some ⟨V.heap.size, 0, none⟩) 1 1 → us.length = 31 → One us → Below W.heap.size W V → W.heap.size ≤ B → B ≤ V.heap.size → mServer.own V (fun q => B ≤ q ∧ q < V.heap.size) us (svY ((i : Int) + 1) (knX ps) 0) →
      wpAnyH Try.prog .any (iOps t0 t1 t2 t3 t4 t5 t6 t7 t8 t9 t10 t11 s0 s1 s2 s3 s4 s5 s6 s7 s8 s9 s10 s11 at0 at1 at2) Q (fun V => Seg V pg og (gcs ap ab np cp cb)) 3 #[true, true, true, true, true, true, true, true, true, false, false, false] b (V.alloc (.cells (rpC us).toArray 76)) := by
    intro b V us B Sb eR eL h31 h1 hV hWB hBV ho
    have hn := below_new V (.cells (rpC us).toArray 76)
    have hU : Below W.heap.size W (V.alloc (.cells (rpC us).toArray 76)) := hV.trans (hn.mono hV.size)
    obtain ⟨a', c', T, rs', G', hrun, hRw, hT⟩ := hR.add (X := fun j => svY ((j : Int) + 1) (knX ps) 0) h31 h1 hV.size hV (by omega) hWB hBV ho g1000 23 rfl t9 rfl
    have hWT : Below D W T := (hU.mono hd).trans hT
    have hSg' : ∀ X : World, (∀ q, q < D → q ≠ pC → X.heap[q]? = W.heap[q]?) → (pg = pC ∧ og = 1 → Seg X pg og (gcs ap ab np cp cb)) → Seg X pg og (gcs ap ab np cp cb) := fun X hX hc => by
      rcases K.g with g | ⟨g1, g2⟩
      · exact hc g
      · exact fun j u hu => (cell_block (hX pg g2 g1)).trans (H.sg j u hu)
    have hbT : Box T pC ([] ++ ([.slice ad i c] ++ (gcs ap ab np cp cb ++ tl))) := by
      obtain ⟨t, ht⟩ := hB
      exact ⟨t, (hWT.block pC K.c1).trans ht⟩
    have hST : Seg T pg og (gcs ap ab np cp cb) := hSg' T (fun q hq _ => hWT.block q hq) (fun ⟨e1, e2⟩ => by subst e1 e2; exact Box.seg (us := [.slice ad i c]) (ts := tl) hbT rfl)
    refine dr_do 9 43 (v := .slice a' (i + 1) c') (V := T) rfl (by kernel_rfl) ?_ ⟨hST, ?_⟩
    · have e1 := hrun
      simp only [execOp, resolve, invoke, builtin, Sem.run_bind, Sem.run_pure, Result.andThen_ok, List.map_toArray, List.map_cons, List.map_nil, eR, eL, e1]
    have Sb2 := Sb.put (by omega : 8 < 43) (.slice a' (i + 1) c')
    refine dr_val 10 44 (v := .pointer (some ⟨pC, 0 + 0, none⟩)) rfl (by kernel_rfl) hpn (fun V _ => ex_field Sb2.eC (by kernel_rfl) V) hST ?_
    have Sb3 := Sb2.put (by omega : 8 < 44) (.pointer (some ⟨pC, 0 + 0, none⟩))
    refine dr_store 11 (off := 0) (n := 1) (v := .slice a' (i + 1) c') (vs := [.slice a' (i + 1) c']) (az := []) (bs := [.slice ad i c]) (cs := gcs ap ab np cp cb ++ tl) rfl (by kernel_rfl) (put_eq (by rw [Sb2.sz]; omega)) ((put_ne (by omega)).trans (put_eq (by rw [Sb.sz]; omega))) rfl (one1 rfl) (by kernel_rfl) rfl hbT rfl rfl ?_
    intro U2 hU2 hg hz
    have hD := H.next K hU hT hRw hU2 hg
    refine ⟨hD.sg, by kernel_rfl, ?_⟩
    exact k _ _ Sb3 hD
  have stD : ∀ (b : Act) (V : World) (us : List Value) (B : Nat), Cs 46 7 8 n i p4 p6 pC b → b.eval (.tmp 34) = .pointer (some ⟨pC, 0, none⟩) → b.eval (.tmp 41) = vA (rpC us) → us.length = 31 → One us → Below W.heap.size W V → W.heap.size ≤ B → B ≤ V.heap.size → mServer.own V (fun q => B ≤ q ∧ q < V.heap.size) us (svY ((i : Int) + 1) (knX ps) 0) →
      (b.eval (.tmp 35) = .slice ad i c → wpAnyH Try.prog .any (iOps t0 t1 t2 t3 t4 t5 t6 t7 t8 t9 t10 t11 s0 s1 s2 s3 s4 s5 s6 s7 s8 s9 s10 s11 at0 at1 at2) Q (fun V => Seg V pg og (gcs ap ab np cp cb)) 4 #[true, true, true, true, true, true, true, true, false, false, false, false] b V) ∧ wpAnyH Try.prog .any (iOps t0 t1 t2 t3 t4 t5 t6 t7 t8 t9 t10 t11 s0 s1 s2 s3 s4 s5 s6 s7 s8 s9 s10 s11 at0 at1 at2) Q (fun V => Seg V pg og (gcs ap ab np cp cb)) 5 #[true, false, true, true, true, true, true, true, false, false, false, false] b V := by
    intro b V us B Sb e0 eP h31 h1 hV hWB hBV ho
    have hn := below_new V (.cells (rpC us).toArray 76)
    have hU : Below W.heap.size W (V.alloc (.cells (rpC us).toArray 76)) := hV.trans (hn.mono hV.size)
    have hrun : ∀ b' : Act, b'.eval (.tmp 41) = vA (rpC us) → (execOp b'.eval (⟨some 42, .buildSlice 23 1 #[(0, .tmp 41)], t8, s8, #[⟨7, .data⟩], none⟩ : Oper)).run Try.prog V = .ok (.value (.slice (some ⟨V.heap.size, 0, none⟩) 1 1)) (V.alloc (.cells (rpC us).toArray 76)) := fun b' hb => by
      have e1 := rp_slice us h31 V
      simp only [execOp, Sem.run_bind, List.map_toArray, List.map_cons, List.map_nil, hb, e1, Result.andThen_ok]
      rfl
    have T1 : ∀ b' : Act, Cs 46 7 8 n i p4 p6 pC b' → b'.eval (.tmp 41) = vA (rpC us) → b'.eval (.tmp 35) = .slice ad i c → wpAnyH Try.prog .any (iOps t0 t1 t2 t3 t4 t5 t6 t7 t8 t9 t10 t11 s0 s1 s2 s3 s4 s5 s6 s7 s8 s9 s10 s11 at0 at1 at2) Q (fun V => Seg V pg og (gcs ap ab np cp cb)) 4 #[true, true, true, true, true, true, true, true, false, false, false, false] b' V := fun b' Sb' hb eR =>
      dr_do 8 42 rfl (by kernel_rfl) (hrun b' hb) ⟨hSg _ hU, stE _ V us B (Sb'.put (by omega) _) ((put_ne (by omega)).trans eR) (put_eq (by rw [Sb'.sz]; omega)) h31 h1 hV hWB hBV ho⟩
    refine ⟨fun eR => T1 b Sb eP eR, ?_⟩
    refine dr_or 1 8 35 rfl (by kernel_rfl) (hld b V e0 hV) (hSg _ hV) ?_ ?_
    · exact T1 _ (Sb.put (by omega) _) ((put_ne (by omega)).trans eP) (put_eq (by rw [Sb.sz]; omega))
    refine dr_doA 8 42 rfl (hrun b eP) ⟨hSg _ hU, ?_⟩
    have Sb2 := Sb.put (by omega : 8 < 42) (.slice (some ⟨V.heap.size, 0, none⟩) 1 1)
    refine dr_do 1 35 rfl (by kernel_rfl) (hld _ _ ((put_ne (by omega)).trans e0) hU) ⟨hSg _ hU, ?_⟩
    exact stE _ V us B (Sb2.put (by omega) _) (put_eq (by rw [Sb2.sz]; omega)) ((put_ne (by omega)).trans (put_eq (by rw [Sb.sz]; omega))) h31 h1 hV hWB hBV ho
  have stC : ∀ (b : Act) (V : World) (us : List Value) (B : Nat), Cs 46 7 8 n i p4 p6 pC b → b.eval (.tmp 34) = .pointer (some ⟨pC, 0, none⟩) → b.eval (.tmp 39) = vA us → us.length = 31 → One us → Below W.heap.size W V → W.heap.size ≤ B → B ≤ V.heap.size → mServer.own V (fun q => B ≤ q ∧ q < V.heap.size) us (svY ((i : Int) + 1) (knX ps) 0) →
      (b.eval (.tmp 35) = .slice ad i c → wpAnyH Try.prog .any (iOps t0 t1 t2 t3 t4 t5 t6 t7 t8 t9 t10 t11 s0 s1 s2 s3 s4 s5 s6 s7 s8 s9 s10 s11 at0 at1 at2) Q (fun V => Seg V pg og (gcs ap ab np cp cb)) 6 #[true, true, true, true, true, true, false, false, false, false, false, false] b V) ∧ wpAnyH Try.prog .any (iOps t0 t1 t2 t3 t4 t5 t6 t7 t8 t9 t10 t11 s0 s1 s2 s3 s4 s5 s6 s7 s8 s9 s10 s11 at0 at1 at2) Q (fun V => Seg V pg og (gcs ap ab np cp cb)) 7 #[true, false, true, true, true, true, false, false, false, false, false, false] b V := by
    intro b V us B Sb e0 eS h31 h1 hV hWB hBV ho
    have hc := iStateNew_c V
    have hbu : ∀ (b' : Act) (X : World), Cs 46 7 8 n i p4 p6 pC b' → b'.eval (.tmp 39) = vA us → (execOp (b'.put (some 40) (vA stC)).eval (⟨some 41, .build 76 #[(0, .tmp 39), (1, .tmp 40), (4, .const (.bool true))], t7, s7, #[⟨5, .data⟩, ⟨6, .data⟩], none⟩ : Oper)).run Try.prog X = .ok (.value (vA (rpC us))) X := fun b' X Sb' hb => by
      have f1 : (b'.put (some 40) (vA stC)).eval (.tmp 39) = vA us := (put_ne (by omega)).trans hb
      have f2 : (b'.put (some 40) (vA stC)).eval (.tmp 40) = vA stC := put_eq (by rw [Sb'.sz]; omega)
      refine ex_build ?_ X
      simp only [List.map_toArray, List.map_cons, List.map_nil, f1, f2, eval_c]
      exact rp_built us h31
    have T1 : ∀ b' : Act, Cs 46 7 8 n i p4 p6 pC b' → b'.eval (.tmp 34) = .pointer (some ⟨pC, 0, none⟩) → b'.eval (.tmp 39) = vA us → b'.eval (.tmp 35) = .slice ad i c → wpAnyH Try.prog .any (iOps t0 t1 t2 t3 t4 t5 t6 t7 t8 t9 t10 t11 s0 s1 s2 s3 s4 s5 s6 s7 s8 s9 s10 s11 at0 at1 at2) Q (fun V => Seg V pg og (gcs ap ab np cp cb)) 6 #[true, true, true, true, true, true, false, false, false, false, false, false] b' V := by
      intro b' Sb' f0 fS fR
      refine dr_call 6 40 (hi := rfl) (hr := by kernel_rfl) (R := fun e X => e = .returned (vA stC) ∧ Below V.heap.size V X) ⟨_, Try.func28, by kernel_rfl, by kernel_rfl⟩ (by simpa only [List.map_toArray, List.map_nil] using hc) ?_
      rintro e X ⟨rfl, hX⟩
      have hVX : Below W.heap.size W X := hV.trans (hX.mono hV.size)
      have Sb2 := Sb'.put (by omega : 8 < 40) (vA stC)
      refine ⟨_, rfl, hSg _ hVX, ?_⟩
      refine dr_val 7 41 rfl (by kernel_rfl) hpn (fun Y _ => hbu b' Y Sb' fS) (hSg _ hVX) ?_
      exact (stD _ X us B (Sb2.put (by omega) _) ((put_ne (by omega)).trans ((put_ne (by omega)).trans f0)) (put_eq (by rw [Sb2.sz]; omega)) h31 h1 hVX hWB (Nat.le_trans hBV hX.size) (mServer.wid (mServer.lat ho hX) (fun q hq => ⟨hq.1, Nat.lt_of_lt_of_le hq.2 hX.size⟩))).1 ((put_ne (by omega)).trans ((put_ne (by omega)).trans fR))
    refine ⟨fun eR => T1 b Sb e0 eS eR, ?_⟩
    refine dr_or 1 6 35 rfl (by kernel_rfl) (hld b V e0 hV) (hSg _ hV) ?_ ?_
    · exact T1 _ (Sb.put (by omega) _) ((put_ne (by omega)).trans e0) ((put_ne (by omega)).trans eS) (put_eq (by rw [Sb.sz]; omega))
    refine dr_callA 6 40 (hi := rfl) (R := fun e X => e = .returned (vA stC) ∧ Below V.heap.size V X) ⟨_, Try.func28, by kernel_rfl, by kernel_rfl⟩ (by simpa only [List.map_toArray, List.map_nil] using hc) ?_
    rintro e X ⟨rfl, hX⟩
    have hVX : Below W.heap.size W X := hV.trans (hX.mono hV.size)
    have Sb2 := Sb.put (by omega : 8 < 40) (vA stC)
    refine ⟨_, rfl, hSg _ hVX, ?_⟩
    refine dr_val 7 41 rfl (by kernel_rfl) hpn (fun Y _ => hbu b Y Sb eS) (hSg _ hVX) ?_
    exact (stD _ X us B (Sb2.put (by omega) _) ((put_ne (by omega)).trans ((put_ne (by omega)).trans e0)) (put_eq (by rw [Sb2.sz]; omega)) h31 h1 hVX hWB (Nat.le_trans hBV hX.size) (mServer.wid (mServer.lat ho hX) (fun q hq => ⟨hq.1, Nat.lt_of_lt_of_le hq.2 hX.size⟩))).2
  have stB : ∀ (b : Act) (V : World) (kk : Kv) (B : Nat), Cs 46 7 8 n i p4 p6 pC b → b.eval (.tmp 34) = .pointer (some ⟨pC, 0, none⟩) → b.eval (.tmp 36) = .int .i64 ((i : Int) + 1) → b.eval (.tmp 38) = vA kk.cells → Below W.heap.size W V → Kn V B kk ps →
      (b.eval (.tmp 35) = .slice ad i c → wpAnyH Try.prog .any (iOps t0 t1 t2 t3 t4 t5 t6 t7 t8 t9 t10 t11 s0 s1 s2 s3 s4 s5 s6 s7 s8 s9 s10 s11 at0 at1 at2) Q (fun V => Seg V pg og (gcs ap ab np cp cb)) 7 #[true, true, true, true, true, false, false, false, false, false, false, false] b V) ∧ wpAnyH Try.prog .any (iOps t0 t1 t2 t3 t4 t5 t6 t7 t8 t9 t10 t11 s0 s1 s2 s3 s4 s5 s6 s7 s8 s9 s10 s11 at0 at1 at2) Q (fun V => Seg V pg og (gcs ap ab np cp cb)) 8 #[true, false, true, true, true, false, false, false, false, false, false, false] b V := by
    intro b V kk B Sb e0 eI eK hV hk
    have hc := iRestart_n ((i : Int) + 1) kk ps V B hk K.r hin
    have T1 : ∀ b' : Act, Cs 46 7 8 n i p4 p6 pC b' → b'.eval (.tmp 34) = .pointer (some ⟨pC, 0, none⟩) → b'.eval (.tmp 36) = .int .i64 ((i : Int) + 1) → b'.eval (.tmp 38) = vA kk.cells → b'.eval (.tmp 35) = .slice ad i c → wpAnyH Try.prog .any (iOps t0 t1 t2 t3 t4 t5 t6 t7 t8 t9 t10 t11 s0 s1 s2 s3 s4 s5 s6 s7 s8 s9 s10 s11 at0 at1 at2) Q (fun V => Seg V pg og (gcs ap ab np cp cb)) 7 #[true, true, true, true, true, false, false, false, false, false, false, false] b' V := by
      intro b' Sb' f0 fI fK fR
      refine dr_call 5 39 (R := fun e X => ∃ us, e = .returned (vA us) ∧ mServer.own X (fun q => V.heap.size ≤ q ∧ q < X.heap.size) us (svY ((i : Int) + 1) (knX ps) 0) ∧ Below V.heap.size V X) rfl (by kernel_rfl) ⟨_, Try.func26, by kernel_rfl, by kernel_rfl⟩ ?_ ?_
      · simpa only [List.map_toArray, List.map_cons, List.map_nil, fI, fK] using hc
      rintro e X ⟨us, rfl, ho, hX⟩
      have hVX : Below W.heap.size W X := hV.trans (hX.mono hV.size)
      refine ⟨_, rfl, hSg _ hVX, ?_⟩
      exact (stC _ X us V.heap.size (Sb'.put (by omega) _) ((put_ne (by omega)).trans f0) (put_eq (by rw [Sb'.sz]; omega)) (mServer.len ho) (mServer.one ho) hVX hV.size hX.size ho).1 ((put_ne (by omega)).trans fR)
    refine ⟨fun eR => T1 b Sb e0 eI eK eR, ?_⟩
    refine dr_or 1 5 35 rfl (by kernel_rfl) (hld b V e0 hV) (hSg _ hV) ?_ ?_
    · exact T1 _ (Sb.put (by omega) _) ((put_ne (by omega)).trans e0) ((put_ne (by omega)).trans eI) ((put_ne (by omega)).trans eK) (put_eq (by rw [Sb.sz]; omega))
    refine dr_callA 5 39 (R := fun e X => ∃ us, e = .returned (vA us) ∧ mServer.own X (fun q => V.heap.size ≤ q ∧ q < X.heap.size) us (svY ((i : Int) + 1) (knX ps) 0) ∧ Below V.heap.size V X) rfl ⟨_, Try.func26, by kernel_rfl, by kernel_rfl⟩ ?_ ?_
    · simpa only [List.map_toArray, List.map_cons, List.map_nil, eI, eK] using hc
    rintro e X ⟨us, rfl, ho, hX⟩
    have hVX : Below W.heap.size W X := hV.trans (hX.mono hV.size)
    refine ⟨_, rfl, hSg _ hVX, ?_⟩
    exact (stC _ X us V.heap.size (Sb.put (by omega) _) ((put_ne (by omega)).trans e0) (put_eq (by rw [Sb.sz]; omega)) (mServer.len ho) (mServer.one ho) hVX hV.size hX.size ho).2
  have stA : ∀ (b : Act), Cs 46 7 8 n i p4 p6 pC b → b.eval (.tmp 34) = .pointer (some ⟨pC, 0, none⟩) → b.eval (.tmp 36) = .int .i64 ((i : Int) + 1) → b.eval (.tmp 37) = vA (gcs ap ab np cp cb) → wpAnyH Try.prog .any (iOps t0 t1 t2 t3 t4 t5 t6 t7 t8 t9 t10 t11 s0 s1 s2 s3 s4 s5 s6 s7 s8 s9 s10 s11 at0 at1 at2) Q (fun V => Seg V pg og (gcs ap ab np cp cb)) 9 #[true, false, true, true, false, false, false, false, false, false, false, false] b W := by
    intro b Sb e0 eI eG
    have hW := Below.refl W.heap.size W
    have hc : Calls Try.prog 27 #[vA (gcs ap ab np cp cb)] W fun e X => ∃ kk, e = .returned (vA (Kv.cells kk)) ∧ Kn X W.heap.size kk ps ∧ Below W.heap.size W X := iKn_c ap ab np cp cb ps W (H.gf K) K.r
    refine dr_or 1 4 35 rfl (by kernel_rfl) (hld b W e0 hW) (hSg _ hW) ?_ ?_
    · have Sb1 := Sb.put (by omega : 8 < 35) (.slice ad i c)
      have fG : (b.put (some 35) (.slice ad i c)).eval (.tmp 37) = vA (gcs ap ab np cp cb) := (put_ne (by omega)).trans eG
      refine dr_call 4 38 (R := fun e X => ∃ kk, e = .returned (vA (Kv.cells kk)) ∧ Kn X W.heap.size kk ps ∧ Below W.heap.size W X) rfl (by kernel_rfl) ⟨_, Try.func27, by kernel_rfl, by kernel_rfl⟩ ?_ ?_
      · simpa only [List.map_toArray, List.map_cons, List.map_nil, fG] using hc
      rintro e X ⟨kk, rfl, hk, hX⟩
      refine ⟨_, rfl, hSg _ hX, ?_⟩
      exact (stB _ X kk _ (Sb1.put (by omega) _) ((put_ne (by omega)).trans ((put_ne (by omega)).trans e0)) ((put_ne (by omega)).trans ((put_ne (by omega)).trans eI)) (put_eq (by rw [Sb1.sz]; omega)) hX hk).1 ((put_ne (by omega)).trans (put_eq (by rw [Sb.sz]; omega)))
    refine dr_callA 4 38 (R := fun e X => ∃ kk, e = .returned (vA (Kv.cells kk)) ∧ Kn X W.heap.size kk ps ∧ Below W.heap.size W X) rfl ⟨_, Try.func27, by kernel_rfl, by kernel_rfl⟩ ?_ ?_
    · simpa only [List.map_toArray, List.map_cons, List.map_nil, eG] using hc
    rintro e X ⟨kk, rfl, hk, hX⟩
    refine ⟨_, rfl, hSg _ hX, ?_⟩
    exact (stB _ X kk _ (Sb.put (by omega) _) ((put_ne (by omega)).trans e0) ((put_ne (by omega)).trans eI) (put_eq (by rw [Sb.sz]; omega)) hX hk).2
  obtain ⟨rfl, rfl⟩ := h6
  refine dr_val 0 34 (v := .pointer (some ⟨pC, 0 + 0, none⟩)) rfl (by kernel_rfl) hpn (fun V _ => ex_field S.eC (by kernel_rfl) V) hS0 ?_
  have S1 := S.put (by omega : 8 < 34) (.pointer (some ⟨pC, 0 + 0, none⟩))
  refine dr_val 2 36 (v := .int .i64 ((i : Int) + 1)) rfl (by kernel_rfl) hpn (fun V _ => by rw [← S1.hi]; exact ex_move rfl V) hS0 ?_
  have S2 := S1.put (by omega : 8 < 36) (.int .i64 ((i : Int) + 1))
  refine dr_val 3 37 (v := vA (gcs ap ab np cp cb)) rfl (by kernel_rfl) hpn (fun V hV => ex_agg (us := gcs ap ab np cp cb) (n := 2) S2.s6 ⟨by kernel_rfl, by kernel_rfl⟩ rfl V hV) hS0 ?_
  have S3 := S2.put (by omega : 8 < 37) (vA (gcs ap ab np cp cb))
  exact stA _ S3 ((put_ne (by omega)).trans ((put_ne (by omega)).trans (put_eq (by rw [S.sz]; omega)))) ((put_ne (by omega)).trans (put_eq (by rw [S1.sz]; omega))) (put_eq (by rw [S2.sz]; omega))

def sOps (t0 t1 t2 t3 t4 t5 t6 t7 t8 t9 t10 t11 t12 : TypeId) (s0 s1 s2 s3 s4 s5 s6 s7 s8 s9 s10 s11 s12 : String) (at0 at1 at2 : Array TypeId) : Array Oper := #[⟨some 42, .fieldAddr 31 (.tmp 6) 0, t0, s0, #[], none⟩, ⟨some 43, .load 23 (.tmp 42), t1, s1, #[⟨0, .data⟩], none⟩, ⟨some 44, .move (.tmp 7), t2, s2, #[], none⟩, ⟨some 45, .fieldAddr 31 (.tmp 6) 1, t3, s3, #[], none⟩, ⟨some 46, .load 25 (.tmp 45), t4, s4, #[⟨3, .data⟩], none⟩, ⟨some 47, .call { callee := .value (.func 20), args := #[.tmp 46], argTypes := at0 }, t5, s5, #[⟨4, .data⟩], none⟩, ⟨some 48, .call { callee := .value (.func 19), args := #[.tmp 44, .tmp 47], argTypes := at1 }, t6, s6, #[⟨2, .data⟩, ⟨5, .data⟩, ⟨5, .chain⟩], none⟩, ⟨some 49, .call { callee := .value (.func 21), args := #[], argTypes := at2 }, t7, s7, #[⟨6, .chain⟩], none⟩, ⟨some 50, .build 76 #[(0, .tmp 48), (1, .tmp 49), (4, .const (.bool true))], t8, s8, #[⟨6, .data⟩, ⟨7, .data⟩], none⟩, ⟨some 51, .buildSlice 23 1 #[(0, .tmp 50)], t9, s9, #[⟨8, .data⟩], none⟩, ⟨some 52, .call { callee := .builtin .append, args := #[.tmp 43, .tmp 51], argTypes := #[23, 23] }, t10, s10, #[⟨1, .data⟩, ⟨9, .data⟩, ⟨7, .chain⟩], none⟩, ⟨some 53, .fieldAddr 31 (.tmp 6) 0, t11, s11, #[⟨0, .phase⟩, ⟨1, .phase⟩, ⟨2, .phase⟩, ⟨3, .phase⟩, ⟨4, .phase⟩, ⟨5, .phase⟩, ⟨6, .phase⟩, ⟨7, .phase⟩, ⟨8, .phase⟩, ⟨9, .phase⟩, ⟨10, .phase⟩], none⟩, ⟨none, .store 23 (.tmp 53) (.tmp 52), t12, s12, #[⟨11, .data⟩, ⟨10, .data⟩, ⟨10, .chain⟩, ⟨0, .phase⟩, ⟨1, .phase⟩, ⟨2, .phase⟩, ⟨3, .phase⟩, ⟨4, .phase⟩, ⟨5, .phase⟩, ⟨6, .phase⟩, ⟨7, .phase⟩, ⟨8, .phase⟩, ⟨9, .phase⟩, ⟨10, .phase⟩], none⟩]
set_option maxRecDepth 10000 in
set_option maxHeartbeats 4000000 in
theorem s_round {t0 t1 t2 t3 t4 t5 t6 t7 t8 t9 t10 t11 t12 : TypeId} {s0 s1 s2 s3 s4 s5 s6 s7 s8 s9 s10 s11 s12 : String} {at0 at1 at2 : Array TypeId} {r0 : Nat} {w W : World} {a : Act} {Q : Exit → Act → World → Prop} {ap ab : Option Addr} {np cp cb : Nat} {ps : List Int} {D0 D p4 p6 pC pg og n i : Nat} {FG : Nat → Prop} {tl zs : List Value} (K : Cl ap ab np cp cb ps D0 D p4 pC pg og FG) (S : Cs 55 6 7 n i p4 p6 pC a) (H : Dl w ap ab np cp cb ps D0 D p4 pC pg og FG tl zs i W) (h6 : pC = p6 ∧ pC = pg ∧ og = 1) (hi7 : i < 7) (hpn : ∀ c a d v w, Q (.panic c) (a.put d v) w → Q (.panic c) a w)
    (k : ∀ a V, Cs 55 6 7 n i p4 p6 pC a → Dl w ap ab np cp cb ps D0 D p4 pC pg og FG tl zs (i + 1) V → Q .normal a V) :
    Code.wp Try.prog (Code.region r0 (sOps t0 t1 t2 t3 t4 t5 t6 t7 t8 t9 t10 t11 t12 s0 s1 s2 s3 s4 s5 s6 s7 s8 s9 s10 s11 s12 at0 at1 at2) true) Q a W := by
  have hS0 : (fun V => Seg V pg og (gcs ap ab np cp cb)) W.drew := H.sg.latr H.pl (Below.refl _ W).drew
  have H := H.later (Below.refl _ W).drew
  refine wp_region_held_drew (S := fun V => Seg V pg og (gcs ap ab np cp cb)) (by kernel_rfl) hS0 (fun _ => ?_)
  generalize W.drew = W at H hS0 ⊢
  obtain ⟨ad, c, rs, G, hR, hB⟩ := H.row
  have hd := H.d
  have g1000 : i ≤ 1000 := by omega
  have hSg : ∀ V, Below W.heap.size W V → Seg V pg og (gcs ap ab np cp cb) := fun V hV => H.sg.latr H.pl hV
  have hin : inB ((i : Int) + 1) 1 7 = true := by
    unfold inB
    rw [decide_eq_true (by omega), decide_eq_true (by omega)]
    rfl
  have hld : ∀ (b : Act) (V : World), b.eval (.tmp 42) = .pointer (some ⟨pC, 0, none⟩) → Below W.heap.size W V → (execOp b.eval (⟨some 43, .load 23 (.tmp 42), t1, s1, #[⟨0, .data⟩], none⟩ : Oper)).run Try.prog V = .ok (.value (.slice ad i c)) V := fun b V hb hV =>
    ex_load hb ⟨by kernel_rfl, by kernel_rfl⟩ V (Seg.one (Box.seg (us := []) (vs := [.slice ad i c]) (hB.later hV) rfl))
  have stE : ∀ (b : Act) (V : World) (us : List Value) (B : Nat), Cs 55 6 7 n i p4 p6 pC b → b.eval (.tmp 43) = .slice ad i c → b.eval (.tmp 51) = .slice (some ⟨V.heap.size, 0, none⟩) 1 1 → us.length = 31 → One us → Below W.heap.size W V → W.heap.size ≤ B → B ≤ V.heap.size → mServer.own V (fun q => B ≤ q ∧ q < V.heap.size) us (svY ((i : Int) + 1) (knX ps) 0) →
      wpAnyH Try.prog .any (sOps t0 t1 t2 t3 t4 t5 t6 t7 t8 t9 t10 t11 t12 s0 s1 s2 s3 s4 s5 s6 s7 s8 s9 s10 s11 s12 at0 at1 at2) Q (fun V => Seg V pg og (gcs ap ab np cp cb)) 3 #[true, true, true, true, true, true, true, true, true, true, false, false, false] b (V.alloc (.cells (rpC us).toArray 76)) := by
    intro b V us B Sb eR eL h31 h1 hV hWB hBV ho
    have hn := below_new V (.cells (rpC us).toArray 76)
    have hU : Below W.heap.size W (V.alloc (.cells (rpC us).toArray 76)) := hV.trans (hn.mono hV.size)
    obtain ⟨a', c', T, rs', G', hrun, hRw, hT⟩ := hR.add (X := fun j => svY ((j : Int) + 1) (knX ps) 0) h31 h1 hV.size hV (by omega) hWB hBV ho g1000 23 rfl t10 rfl
    have hWT : Below D W T := (hU.mono hd).trans hT
    have hSg' : ∀ X : World, (∀ q, q < D → q ≠ pC → X.heap[q]? = W.heap[q]?) → (pg = pC ∧ og = 1 → Seg X pg og (gcs ap ab np cp cb)) → Seg X pg og (gcs ap ab np cp cb) := fun X hX hc => by
      rcases K.g with g | ⟨g1, g2⟩
      · exact hc g
      · exact fun j u hu => (cell_block (hX pg g2 g1)).trans (H.sg j u hu)
    have hbT : Box T pC ([] ++ ([.slice ad i c] ++ (gcs ap ab np cp cb ++ tl))) := by
      obtain ⟨t, ht⟩ := hB
      exact ⟨t, (hWT.block pC K.c1).trans ht⟩
    have hST : Seg T pg og (gcs ap ab np cp cb) := hSg' T (fun q hq _ => hWT.block q hq) (fun ⟨e1, e2⟩ => by subst e1 e2; exact Box.seg (us := [.slice ad i c]) (ts := tl) hbT rfl)
    refine dr_do 10 52 (v := .slice a' (i + 1) c') (V := T) rfl (by kernel_rfl) ?_ ⟨hST, ?_⟩
    · have e1 := hrun
      simp only [execOp, resolve, invoke, builtin, Sem.run_bind, Sem.run_pure, Result.andThen_ok, List.map_toArray, List.map_cons, List.map_nil, eR, eL, e1]
    have Sb2 := Sb.put (by omega : 8 < 52) (.slice a' (i + 1) c')
    refine dr_val 11 53 (v := .pointer (some ⟨pC, 0 + 0, none⟩)) rfl (by kernel_rfl) hpn (fun V _ => ex_field Sb2.eC (by kernel_rfl) V) hST ?_
    have Sb3 := Sb2.put (by omega : 8 < 53) (.pointer (some ⟨pC, 0 + 0, none⟩))
    refine dr_store 12 (off := 0) (n := 1) (v := .slice a' (i + 1) c') (vs := [.slice a' (i + 1) c']) (az := []) (bs := [.slice ad i c]) (cs := gcs ap ab np cp cb ++ tl) rfl (by kernel_rfl) (put_eq (by rw [Sb2.sz]; omega)) ((put_ne (by omega)).trans (put_eq (by rw [Sb.sz]; omega))) rfl (one1 rfl) (by kernel_rfl) rfl hbT rfl rfl ?_
    intro U2 hU2 hg hz
    have hD := H.next K hU hT hRw hU2 hg
    refine ⟨hD.sg, by kernel_rfl, ?_⟩
    exact k _ _ Sb3 hD
  have stD : ∀ (b : Act) (V : World) (us : List Value) (B : Nat), Cs 55 6 7 n i p4 p6 pC b → b.eval (.tmp 42) = .pointer (some ⟨pC, 0, none⟩) → b.eval (.tmp 50) = vA (rpC us) → us.length = 31 → One us → Below W.heap.size W V → W.heap.size ≤ B → B ≤ V.heap.size → mServer.own V (fun q => B ≤ q ∧ q < V.heap.size) us (svY ((i : Int) + 1) (knX ps) 0) →
      (b.eval (.tmp 43) = .slice ad i c → wpAnyH Try.prog .any (sOps t0 t1 t2 t3 t4 t5 t6 t7 t8 t9 t10 t11 t12 s0 s1 s2 s3 s4 s5 s6 s7 s8 s9 s10 s11 s12 at0 at1 at2) Q (fun V => Seg V pg og (gcs ap ab np cp cb)) 4 #[true, true, true, true, true, true, true, true, true, false, false, false, false] b V) ∧ wpAnyH Try.prog .any (sOps t0 t1 t2 t3 t4 t5 t6 t7 t8 t9 t10 t11 t12 s0 s1 s2 s3 s4 s5 s6 s7 s8 s9 s10 s11 s12 at0 at1 at2) Q (fun V => Seg V pg og (gcs ap ab np cp cb)) 5 #[true, false, true, true, true, true, true, true, true, false, false, false, false] b V := by
    intro b V us B Sb e0 eP h31 h1 hV hWB hBV ho
    have hn := below_new V (.cells (rpC us).toArray 76)
    have hU : Below W.heap.size W (V.alloc (.cells (rpC us).toArray 76)) := hV.trans (hn.mono hV.size)
    have hrun : ∀ b' : Act, b'.eval (.tmp 50) = vA (rpC us) → (execOp b'.eval (⟨some 51, .buildSlice 23 1 #[(0, .tmp 50)], t9, s9, #[⟨8, .data⟩], none⟩ : Oper)).run Try.prog V = .ok (.value (.slice (some ⟨V.heap.size, 0, none⟩) 1 1)) (V.alloc (.cells (rpC us).toArray 76)) := fun b' hb => by
      have e1 := rp_slice us h31 V
      simp only [execOp, Sem.run_bind, List.map_toArray, List.map_cons, List.map_nil, hb, e1, Result.andThen_ok]
      rfl
    have T1 : ∀ b' : Act, Cs 55 6 7 n i p4 p6 pC b' → b'.eval (.tmp 50) = vA (rpC us) → b'.eval (.tmp 43) = .slice ad i c → wpAnyH Try.prog .any (sOps t0 t1 t2 t3 t4 t5 t6 t7 t8 t9 t10 t11 t12 s0 s1 s2 s3 s4 s5 s6 s7 s8 s9 s10 s11 s12 at0 at1 at2) Q (fun V => Seg V pg og (gcs ap ab np cp cb)) 4 #[true, true, true, true, true, true, true, true, true, false, false, false, false] b' V := fun b' Sb' hb eR =>
      dr_do 9 51 rfl (by kernel_rfl) (hrun b' hb) ⟨hSg _ hU, stE _ V us B (Sb'.put (by omega) _) ((put_ne (by omega)).trans eR) (put_eq (by rw [Sb'.sz]; omega)) h31 h1 hV hWB hBV ho⟩
    refine ⟨fun eR => T1 b Sb eP eR, ?_⟩
    refine dr_or 1 9 43 rfl (by kernel_rfl) (hld b V e0 hV) (hSg _ hV) ?_ ?_
    · exact T1 _ (Sb.put (by omega) _) ((put_ne (by omega)).trans eP) (put_eq (by rw [Sb.sz]; omega))
    refine dr_doA 9 51 rfl (hrun b eP) ⟨hSg _ hU, ?_⟩
    have Sb2 := Sb.put (by omega : 8 < 51) (.slice (some ⟨V.heap.size, 0, none⟩) 1 1)
    refine dr_do 1 43 rfl (by kernel_rfl) (hld _ _ ((put_ne (by omega)).trans e0) hU) ⟨hSg _ hU, ?_⟩
    exact stE _ V us B (Sb2.put (by omega) _) (put_eq (by rw [Sb2.sz]; omega)) ((put_ne (by omega)).trans (put_eq (by rw [Sb.sz]; omega))) h31 h1 hV hWB hBV ho
  have stC : ∀ (b : Act) (V : World) (us : List Value) (B : Nat), Cs 55 6 7 n i p4 p6 pC b → b.eval (.tmp 42) = .pointer (some ⟨pC, 0, none⟩) → b.eval (.tmp 48) = vA us → us.length = 31 → One us → Below W.heap.size W V → W.heap.size ≤ B → B ≤ V.heap.size → mServer.own V (fun q => B ≤ q ∧ q < V.heap.size) us (svY ((i : Int) + 1) (knX ps) 0) →
      (b.eval (.tmp 43) = .slice ad i c → wpAnyH Try.prog .any (sOps t0 t1 t2 t3 t4 t5 t6 t7 t8 t9 t10 t11 t12 s0 s1 s2 s3 s4 s5 s6 s7 s8 s9 s10 s11 s12 at0 at1 at2) Q (fun V => Seg V pg og (gcs ap ab np cp cb)) 6 #[true, true, true, true, true, true, true, false, false, false, false, false, false] b V) ∧ wpAnyH Try.prog .any (sOps t0 t1 t2 t3 t4 t5 t6 t7 t8 t9 t10 t11 t12 s0 s1 s2 s3 s4 s5 s6 s7 s8 s9 s10 s11 s12 at0 at1 at2) Q (fun V => Seg V pg og (gcs ap ab np cp cb)) 7 #[true, false, true, true, true, true, true, false, false, false, false, false, false] b V := by
    intro b V us B Sb e0 eS h31 h1 hV hWB hBV ho
    have hc := sStateNew_c V
    have hbu : ∀ (b' : Act) (X : World), Cs 55 6 7 n i p4 p6 pC b' → b'.eval (.tmp 48) = vA us → (execOp (b'.put (some 49) (vA stC)).eval (⟨some 50, .build 76 #[(0, .tmp 48), (1, .tmp 49), (4, .const (.bool true))], t8, s8, #[⟨6, .data⟩, ⟨7, .data⟩], none⟩ : Oper)).run Try.prog X = .ok (.value (vA (rpC us))) X := fun b' X Sb' hb => by
      have f1 : (b'.put (some 49) (vA stC)).eval (.tmp 48) = vA us := (put_ne (by omega)).trans hb
      have f2 : (b'.put (some 49) (vA stC)).eval (.tmp 49) = vA stC := put_eq (by rw [Sb'.sz]; omega)
      refine ex_build ?_ X
      simp only [List.map_toArray, List.map_cons, List.map_nil, f1, f2, eval_c]
      exact rp_built us h31
    have T1 : ∀ b' : Act, Cs 55 6 7 n i p4 p6 pC b' → b'.eval (.tmp 42) = .pointer (some ⟨pC, 0, none⟩) → b'.eval (.tmp 48) = vA us → b'.eval (.tmp 43) = .slice ad i c → wpAnyH Try.prog .any (sOps t0 t1 t2 t3 t4 t5 t6 t7 t8 t9 t10 t11 t12 s0 s1 s2 s3 s4 s5 s6 s7 s8 s9 s10 s11 s12 at0 at1 at2) Q (fun V => Seg V pg og (gcs ap ab np cp cb)) 6 #[true, true, true, true, true, true, true, false, false, false, false, false, false] b' V := by
      intro b' Sb' f0 fS fR
      refine dr_call 7 49 (hi := rfl) (hr := by kernel_rfl) (R := fun e X => e = .returned (vA stC) ∧ Below V.heap.size V X) ⟨_, Try.func21, by kernel_rfl, by kernel_rfl⟩ (by simpa only [List.map_toArray, List.map_nil] using hc) ?_
      rintro e X ⟨rfl, hX⟩
      have hVX : Below W.heap.size W X := hV.trans (hX.mono hV.size)
      have Sb2 := Sb'.put (by omega : 8 < 49) (vA stC)
      refine ⟨_, rfl, hSg _ hVX, ?_⟩
      refine dr_val 8 50 rfl (by kernel_rfl) hpn (fun Y _ => hbu b' Y Sb' fS) (hSg _ hVX) ?_
      exact (stD _ X us B (Sb2.put (by omega) _) ((put_ne (by omega)).trans ((put_ne (by omega)).trans f0)) (put_eq (by rw [Sb2.sz]; omega)) h31 h1 hVX hWB (Nat.le_trans hBV hX.size) (mServer.wid (mServer.lat ho hX) (fun q hq => ⟨hq.1, Nat.lt_of_lt_of_le hq.2 hX.size⟩))).1 ((put_ne (by omega)).trans ((put_ne (by omega)).trans fR))
    refine ⟨fun eR => T1 b Sb e0 eS eR, ?_⟩
    refine dr_or 1 7 43 rfl (by kernel_rfl) (hld b V e0 hV) (hSg _ hV) ?_ ?_
    · exact T1 _ (Sb.put (by omega) _) ((put_ne (by omega)).trans e0) ((put_ne (by omega)).trans eS) (put_eq (by rw [Sb.sz]; omega))
    refine dr_callA 7 49 (hi := rfl) (R := fun e X => e = .returned (vA stC) ∧ Below V.heap.size V X) ⟨_, Try.func21, by kernel_rfl, by kernel_rfl⟩ (by simpa only [List.map_toArray, List.map_nil] using hc) ?_
    rintro e X ⟨rfl, hX⟩
    have hVX : Below W.heap.size W X := hV.trans (hX.mono hV.size)
    have Sb2 := Sb.put (by omega : 8 < 49) (vA stC)
    refine ⟨_, rfl, hSg _ hVX, ?_⟩
    refine dr_val 8 50 rfl (by kernel_rfl) hpn (fun Y _ => hbu b Y Sb eS) (hSg _ hVX) ?_
    exact (stD _ X us B (Sb2.put (by omega) _) ((put_ne (by omega)).trans ((put_ne (by omega)).trans e0)) (put_eq (by rw [Sb2.sz]; omega)) h31 h1 hVX hWB (Nat.le_trans hBV hX.size) (mServer.wid (mServer.lat ho hX) (fun q hq => ⟨hq.1, Nat.lt_of_lt_of_le hq.2 hX.size⟩))).2
  have stB : ∀ (b : Act) (V : World) (kk : Kv) (B : Nat), Cs 55 6 7 n i p4 p6 pC b → b.eval (.tmp 42) = .pointer (some ⟨pC, 0, none⟩) → b.eval (.tmp 44) = .int .i64 ((i : Int) + 1) → b.eval (.tmp 47) = vA kk.cells → Below W.heap.size W V → Kn V B kk ps →
      (b.eval (.tmp 43) = .slice ad i c → wpAnyH Try.prog .any (sOps t0 t1 t2 t3 t4 t5 t6 t7 t8 t9 t10 t11 t12 s0 s1 s2 s3 s4 s5 s6 s7 s8 s9 s10 s11 s12 at0 at1 at2) Q (fun V => Seg V pg og (gcs ap ab np cp cb)) 7 #[true, true, true, true, true, true, false, false, false, false, false, false, false] b V) ∧ wpAnyH Try.prog .any (sOps t0 t1 t2 t3 t4 t5 t6 t7 t8 t9 t10 t11 t12 s0 s1 s2 s3 s4 s5 s6 s7 s8 s9 s10 s11 s12 at0 at1 at2) Q (fun V => Seg V pg og (gcs ap ab np cp cb)) 8 #[true, false, true, true, true, true, false, false, false, false, false, false, false] b V := by
    intro b V kk B Sb e0 eI eK hV hk
    have hc := sRestart_n ((i : Int) + 1) kk ps V B hk K.r hin
    have T1 : ∀ b' : Act, Cs 55 6 7 n i p4 p6 pC b' → b'.eval (.tmp 42) = .pointer (some ⟨pC, 0, none⟩) → b'.eval (.tmp 44) = .int .i64 ((i : Int) + 1) → b'.eval (.tmp 47) = vA kk.cells → b'.eval (.tmp 43) = .slice ad i c → wpAnyH Try.prog .any (sOps t0 t1 t2 t3 t4 t5 t6 t7 t8 t9 t10 t11 t12 s0 s1 s2 s3 s4 s5 s6 s7 s8 s9 s10 s11 s12 at0 at1 at2) Q (fun V => Seg V pg og (gcs ap ab np cp cb)) 7 #[true, true, true, true, true, true, false, false, false, false, false, false, false] b' V := by
      intro b' Sb' f0 fI fK fR
      refine dr_call 6 48 (R := fun e X => ∃ us, e = .returned (vA us) ∧ mServer.own X (fun q => V.heap.size ≤ q ∧ q < X.heap.size) us (svY ((i : Int) + 1) (knX ps) 0) ∧ Below V.heap.size V X) rfl (by kernel_rfl) ⟨_, Try.func19, by kernel_rfl, by kernel_rfl⟩ ?_ ?_
      · simpa only [List.map_toArray, List.map_cons, List.map_nil, fI, fK] using hc
      rintro e X ⟨us, rfl, ho, hX⟩
      have hVX : Below W.heap.size W X := hV.trans (hX.mono hV.size)
      refine ⟨_, rfl, hSg _ hVX, ?_⟩
      exact (stC _ X us V.heap.size (Sb'.put (by omega) _) ((put_ne (by omega)).trans f0) (put_eq (by rw [Sb'.sz]; omega)) (mServer.len ho) (mServer.one ho) hVX hV.size hX.size ho).1 ((put_ne (by omega)).trans fR)
    refine ⟨fun eR => T1 b Sb e0 eI eK eR, ?_⟩
    refine dr_or 1 6 43 rfl (by kernel_rfl) (hld b V e0 hV) (hSg _ hV) ?_ ?_
    · exact T1 _ (Sb.put (by omega) _) ((put_ne (by omega)).trans e0) ((put_ne (by omega)).trans eI) ((put_ne (by omega)).trans eK) (put_eq (by rw [Sb.sz]; omega))
    refine dr_callA 6 48 (R := fun e X => ∃ us, e = .returned (vA us) ∧ mServer.own X (fun q => V.heap.size ≤ q ∧ q < X.heap.size) us (svY ((i : Int) + 1) (knX ps) 0) ∧ Below V.heap.size V X) rfl ⟨_, Try.func19, by kernel_rfl, by kernel_rfl⟩ ?_ ?_
    · simpa only [List.map_toArray, List.map_cons, List.map_nil, eI, eK] using hc
    rintro e X ⟨us, rfl, ho, hX⟩
    have hVX : Below W.heap.size W X := hV.trans (hX.mono hV.size)
    refine ⟨_, rfl, hSg _ hVX, ?_⟩
    exact (stC _ X us V.heap.size (Sb.put (by omega) _) ((put_ne (by omega)).trans e0) (put_eq (by rw [Sb.sz]; omega)) (mServer.len ho) (mServer.one ho) hVX hV.size hX.size ho).2
  have stA : ∀ (b : Act), Cs 55 6 7 n i p4 p6 pC b → b.eval (.tmp 42) = .pointer (some ⟨pC, 0, none⟩) → b.eval (.tmp 44) = .int .i64 ((i : Int) + 1) → b.eval (.tmp 46) = vA (gcs ap ab np cp cb) → wpAnyH Try.prog .any (sOps t0 t1 t2 t3 t4 t5 t6 t7 t8 t9 t10 t11 t12 s0 s1 s2 s3 s4 s5 s6 s7 s8 s9 s10 s11 s12 at0 at1 at2) Q (fun V => Seg V pg og (gcs ap ab np cp cb)) 9 #[true, false, true, true, true, false, false, false, false, false, false, false, false] b W := by
    intro b Sb e0 eI eG
    have hW := Below.refl W.heap.size W
    have hc : Calls Try.prog 20 #[vA (gcs ap ab np cp cb)] W fun e X => ∃ kk, e = .returned (vA (Kv.cells kk)) ∧ Kn X W.heap.size kk ps ∧ Below W.heap.size W X := sKn_c ap ab np cp cb ps W (H.gf K) K.r
    refine dr_or 1 5 43 rfl (by kernel_rfl) (hld b W e0 hW) (hSg _ hW) ?_ ?_
    · have Sb1 := Sb.put (by omega : 8 < 43) (.slice ad i c)
      have fG : (b.put (some 43) (.slice ad i c)).eval (.tmp 46) = vA (gcs ap ab np cp cb) := (put_ne (by omega)).trans eG
      refine dr_call 5 47 (R := fun e X => ∃ kk, e = .returned (vA (Kv.cells kk)) ∧ Kn X W.heap.size kk ps ∧ Below W.heap.size W X) rfl (by kernel_rfl) ⟨_, Try.func20, by kernel_rfl, by kernel_rfl⟩ ?_ ?_
      · simpa only [List.map_toArray, List.map_cons, List.map_nil, fG] using hc
      rintro e X ⟨kk, rfl, hk, hX⟩
      refine ⟨_, rfl, hSg _ hX, ?_⟩
      exact (stB _ X kk _ (Sb1.put (by omega) _) ((put_ne (by omega)).trans ((put_ne (by omega)).trans e0)) ((put_ne (by omega)).trans ((put_ne (by omega)).trans eI)) (put_eq (by rw [Sb1.sz]; omega)) hX hk).1 ((put_ne (by omega)).trans (put_eq (by rw [Sb.sz]; omega)))
    refine dr_callA 5 47 (R := fun e X => ∃ kk, e = .returned (vA (Kv.cells kk)) ∧ Kn X W.heap.size kk ps ∧ Below W.heap.size W X) rfl ⟨_, Try.func20, by kernel_rfl, by kernel_rfl⟩ ?_ ?_
    · simpa only [List.map_toArray, List.map_cons, List.map_nil, eG] using hc
    rintro e X ⟨kk, rfl, hk, hX⟩
    refine ⟨_, rfl, hSg _ hX, ?_⟩
    exact (stB _ X kk _ (Sb.put (by omega) _) ((put_ne (by omega)).trans e0) ((put_ne (by omega)).trans eI) (put_eq (by rw [Sb.sz]; omega)) hX hk).2
  obtain ⟨rfl, rfl, rfl⟩ := h6
  refine dr_val 0 42 (v := .pointer (some ⟨pC, 0 + 0, none⟩)) rfl (by kernel_rfl) hpn (fun V _ => ex_field S.eC (by kernel_rfl) V) hS0 ?_
  have S1 := S.put (by omega : 8 < 42) (.pointer (some ⟨pC, 0 + 0, none⟩))
  refine dr_val 2 44 (v := .int .i64 ((i : Int) + 1)) rfl (by kernel_rfl) hpn (fun V _ => by rw [← S1.hi]; exact ex_move rfl V) hS0 ?_
  have S2 := S1.put (by omega : 8 < 44) (.int .i64 ((i : Int) + 1))
  refine dr_val 3 45 (v := .pointer (some ⟨pC, 0 + 1, none⟩)) rfl (by kernel_rfl) hpn (fun V _ => ex_field S2.s6 (by kernel_rfl) V) hS0 ?_
  have S25 := S2.put (by omega : 8 < 45) (.pointer (some ⟨pC, 0 + 1, none⟩))
  refine dr_val 4 46 (v := vA (gcs ap ab np cp cb)) rfl (by kernel_rfl) hpn (fun V hV => ex_agg (us := gcs ap ab np cp cb) (n := 2) (put_eq (by rw [S2.sz]; omega)) ⟨by kernel_rfl, by kernel_rfl⟩ rfl V hV) hS0 ?_
  have S3 := S25.put (by omega : 8 < 46) (vA (gcs ap ab np cp cb))
  exact stA _ S3 ((put_ne (by omega)).trans ((put_ne (by omega)).trans ((put_ne (by omega)).trans (put_eq (by rw [S.sz]; omega))))) ((put_ne (by omega)).trans ((put_ne (by omega)).trans (put_eq (by rw [S1.sz]; omega)))) (put_eq (by rw [S25.sz]; omega))

end Go.Proofs.Ytmfbmnpfgbenmaa
