/-
  The program's ownKeep: the same Keep in memory of its own.
-/
import Derived.Test.YtmfbmnpfgbenmaaZW33
namespace Go.Proofs.Ytmfbmnpfgbenmaa
open Go.ChangeShapes Go.WideShapes Go.ChangeAt Go.RowKit Go.Joins Go.Deep

/-- The box of what came in, and the answer's. -/
structure So (N p1 p2 : Nat) (a : Act) : Prop where
  s1 : a.eval (.tmp 1) = .pointer (some ⟨p1, 0, none⟩)
  s2 : a.eval (.tmp 2) = .pointer (some ⟨p2, 0, none⟩)
  df : a.defers = []
  sz : a.tmps.size = N
theorem So.put {N p1 p2 t : Nat} {a : Act} (S : So N p1 p2 a) (ht : 2 < t) (v : Value) : So N p1 p2 (a.put (some t) v) := ⟨(put_ne (by omega)).trans S.s1, (put_ne (by omega)).trans S.s2, put_df.trans S.df, put_sz.trans S.sz⟩
theorem Mw.far {α : Type} (T : Mw α) {W V : World} {F : Nat → Prop} {us : List Value} {x : α} {p B : Nat} (h : T.own W F us x) (hF : ∀ q, F q → B ≤ q) (hg : W.grownBy V (some p)) (hp : p < B) : T.own V F us x := T.chg h (Chg.row hg) (fun q hq e => by have := hF q hq; omega)

section
variable {P : Program} {a : Act} {W : World} {Q : Exit → Act → World → Prop} {y : Code} {w : World} {N p1 p2 : Nat} {t0 t1 t2 t3 t4 t5 t6 t7 t8 t9 t10 t11 t12 t13 t14 t15 t16 t17 t18 t19 : TypeId} {s0 s1 s2 s3 s4 s5 s6 s7 s8 s9 s10 s11 s12 s13 s14 s15 s16 s17 s18 s19 : String} {f0 f1 f2 f3 f4 f5 f6 f7 f8 f9 f10 f11 f12 f13 f14 f15 f16 f17 f18 f19 : Array Edge} {id r0 r1 r2 r3 r4 : Nat} {at0 at1 at2 : Array TypeId}

/-- A part is replaced by its copy. -/
theorem oc_step {tA tx tz : TypeId} {ats : Array TypeId} {f : FuncId} {d0 d1 d2 d3 i off n : Nat} {az bs cs : List Value} {R : List Value → World → Prop} (S : So N p1 p2 a) (hd : 2 < d0 ∧ d0 < d1 ∧ d1 < d2 ∧ d2 < d3 ∧ d3 < N) (hA : fldB P tA i off = true) (v : List Value → Value) (hv : (v = vA ∧ Agg P tx n) ∨ (v = v1 ∧ Sca P tx ∧ n = 1)) (hz : (P.info? tz).map (·.size) = some n)
    (hf : Fn P f) (hb : Box W p1 (az ++ (bs ++ cs))) (ha : az.length = off) (hl : bs.length = n) (hC : Calls P f #[v bs] W fun e V => ∃ vs, e = .returned (v vs) ∧ (v vs).cells = vs.toArray ∧ vs.length = n ∧ One vs ∧ Below W.heap.size W V ∧ R vs V)
    (k : ∀ a' V U vs, So N p1 p2 a' → Below W.heap.size W V → R vs V → Box U p1 (az ++ (vs ++ cs)) → V.grownBy U (some p1) → U.heap.size = V.heap.size → Q .normal a' U) :
    Code.wp P (Code.region id #[⟨some d0, .fieldAddr tA (.tmp 1) i, t0, s0, f0, none⟩, ⟨some d1, .load tx (.tmp d0), t1, s1, f1, none⟩, ⟨some d2, .call { callee := .value (.func f), args := #[.tmp d1], argTypes := ats }, t2, s2, f2, none⟩, ⟨some d3, .fieldAddr tA (.tmp 1) i, t3, s3, f3, none⟩, ⟨none, .store tz (.tmp d3) (.tmp d2), t4, s4, f4, none⟩] false) Q a W := by
  obtain ⟨q0, q1, q2, q3, q4⟩ := hd
  have hs := S.sz
  refine wp_region_list ?_
  refine wpl_field S.s1 hA ?_
  refine wpl_loadV (put_eq (by omega)) (load_v hv hl (Box.seg hb ha)) ?_
  have ea : Act.eval ((a.put (some d0) (.pointer (some ⟨p1, off, none⟩))).put (some d1) (v bs)) (.tmp d1) = v bs := put_eq (by rw [put_sz]; omega)
  refine wpl_call hf (R := fun e V => ∃ vs, e = .returned (v vs) ∧ (v vs).cells = vs.toArray ∧ vs.length = n ∧ One vs ∧ Below W.heap.size W V ∧ R vs V) ?_ ?_
  · simpa only [List.map_toArray, List.map_cons, List.map_nil, ea] using hC
  rintro e V ⟨vs, rfl, hc, hn, h1, hbl, hR⟩
  refine ⟨_, rfl, ?_⟩
  refine wpl_field ((put_ne (by omega)).trans ((put_ne (by omega)).trans ((put_ne (by omega)).trans S.s1))) hA ?_
  refine wpl_store rfl tz (.tmp d3) (.tmp d2) rfl (put_eq (by rw [put_sz, put_sz, put_sz]; omega)) ((put_ne (by omega)).trans (put_eq (by rw [put_sz, put_sz]; omega))) vs az bs cs hc h1 hz hn (hb.later hbl) ha hl ?_
  intro U hU hg hz
  rw [put_none]
  exact wpl_nil (k _ V U vs ((((S.put q0 _).put (by omega) _).put (by omega) _).put (by omega) _) hbl hR hU hg hz)
/-- The box is the answer. -/
theorem cell_tail {tO : TypeId} {fn : Func} {R : Ending → World → Prop} {d0 n : Nat} {us zs : List Value} (S : So N p1 p2 a) (hd : 2 < d0 ∧ d0 < N) (hA : Agg P tO n) (hn : us.length = n) (h1 : One us) (hzl : zs.length = n) (hb : Box W p1 us) (hb2 : Box W p2 zs) (hres : fn.results = #[.cell 2 tO])
    (k : ∀ V, W.grownBy V (some p2) → V.heap.size = W.heap.size → R (.returned (vA us)) V) :
    Code.wp P ((Code.region id #[⟨some d0, .load tO (.tmp 1), t0, s0, f0, none⟩, ⟨none, .store tO (.tmp 2) (.tmp d0), t1, s1, f1, none⟩] false).seq Code.ret) (bodyPost P fn R) a W := by
  obtain ⟨k0, k1⟩ := hd
  have hsz := S.sz
  subst hn
  refine wp_seq (wp_region_list ?_)
  refine wpl_load rfl tO (.tmp 1) rfl S.s1 us hA rfl (Box.seg (us := []) (ts := []) (by simpa using hb) rfl) ?_
  refine wpl_store rfl tO (.tmp 2) (.tmp d0) rfl ((put_ne (by omega)).trans S.s2) (put_eq (by omega)) us [] zs [] rfl h1 hA.2 rfl (by simpa using hb2) rfl hzl ?_
  intro V hV hg hz
  refine wpl_nil (wp_ret ?_)
  have hV' : Box V p2 us := by simpa using hV
  have e2 : (a.put (some d0) (.agg us.toArray)).eval (.tmp 2) = .pointer (some ⟨p2, 0, none⟩) := (put_ne (by omega)).trans S.s2
  refine bodyPost_ret (v := .agg us.toArray) ?_ (by show a.defers = []; exact S.df) (k V hg hz)
  have hl : (loadVar tO ⟨p2, 0, none⟩).run P V = .ok (.agg us.toArray) V := run_loadE (P := P) V hA (Box.seg (us := []) (ts := []) (by simpa using hV') rfl)
  have e3 : ((a.put (some d0) (.agg us.toArray)).put none undef).tmps.getD 2 undef = .pointer (some ⟨p2, 0, none⟩) := e2
  have e4 : ((a.put (some d0) (.agg us.toArray)).put none undef).tmps[2]?.getD undef = .pointer (some ⟨p2, 0, none⟩) := by simpa using e3
  simp [results, hres, e4, asAddr, hl]
end

section
variable {w : World} {t0 t1 t2 t3 t4 t5 t6 t7 t8 t9 t10 t11 t12 t13 t14 t15 t16 t17 t18 t19 : TypeId} {s0 s1 s2 s3 s4 s5 s6 s7 s8 s9 s10 s11 s12 s13 s14 s15 s16 s17 s18 s19 : String} {f0 f1 f2 f3 f4 f5 f6 f7 f8 f9 f10 f11 f12 f13 f14 f15 f16 f17 f18 f19 : Array Edge} {r0 r1 r2 r3 r4 : Nat} {at0 at1 at2 : Array TypeId}
set_option maxRecDepth 10000 in
set_option maxHeartbeats 4000000 in
theorem ownKeep_walk {fn : Func} (hN : fn.ntmps = 16) (hres : fn.results = #[.cell 2 54]) (k : Kv) (ss : List Int) (w : World) (hF : KvF w k ss) (hs : KvS k) :
    Code.wp Try.prog ((Code.region r0 #[⟨some 1, .box 54 (.tmp 0), t0, s0, f0, none⟩, ⟨some 2, .alloc 54, t1, s1, f1, none⟩] false).seq
      ((Code.region r1 #[⟨some 3, .fieldAddr 54 (.tmp 1) 4, t2, s2, f2, none⟩, ⟨some 4, .load 25 (.tmp 3), t3, s3, f3, none⟩, ⟨some 5, .call { callee := .value (.func 22), args := #[.tmp 4], argTypes := at0 }, t4, s4, f4, none⟩, ⟨some 6, .fieldAddr 54 (.tmp 1) 4, t5, s5, f5, none⟩, ⟨none, .store 25 (.tmp 6) (.tmp 5), t6, s6, f6, none⟩] false).seq
      ((Code.region r2 #[⟨some 7, .fieldAddr 54 (.tmp 1) 5, t7, s7, f7, none⟩, ⟨some 8, .load 52 (.tmp 7), t8, s8, f8, none⟩, ⟨some 9, .call { callee := .value (.func 96), args := #[.tmp 8], argTypes := at1 }, t9, s9, f9, none⟩, ⟨some 10, .fieldAddr 54 (.tmp 1) 5, t10, s10, f10, none⟩, ⟨none, .store 52 (.tmp 10) (.tmp 9), t11, s11, f11, none⟩] false).seq
      ((Code.region r3 #[⟨some 11, .fieldAddr 54 (.tmp 1) 6, t12, s12, f12, none⟩, ⟨some 12, .load 28 (.tmp 11), t13, s13, f13, none⟩, ⟨some 13, .call { callee := .value (.func 97), args := #[.tmp 12], argTypes := at2 }, t14, s14, f14, none⟩, ⟨some 14, .fieldAddr 54 (.tmp 1) 6, t15, s15, f15, none⟩, ⟨none, .store 28 (.tmp 14) (.tmp 13), t16, s16, f16, none⟩] false).seq
      ((Code.region r4 #[⟨some 15, .load 54 (.tmp 1), t17, s17, f17, none⟩, ⟨none, .store 54 (.tmp 2) (.tmp 15), t18, s18, f18, none⟩] false).seq Code.ret)))))
      (bodyPost Try.prog fn fun x V => ∃ us, x = .returned (vA us) ∧ mKeep.own V (fun q => w.heap.size ≤ q ∧ q < V.heap.size) us (keX k ss) ∧ Below w.heap.size w V) ⟨#[k.v] ++ Array.replicate (fn.ntmps - (#[k.v] : Array Value).size) undef, []⟩ w := by
  obtain ⟨T, Vt, B, E, ga, gn, gc, ha, hn, hc, sa, sn, sc, la, ln, lc, ps, bs, es⟩ := k
  obtain ⟨⟨a1, a2, a3, a4, a5, a6, a7⟩, b1, b2, b3⟩ := hF
  obtain ⟨z1, z2, z3, z4, z5⟩ := hs
  simp only at a1 a2 a3 a4 a5 a6 a7 b1 b3 z1 z2 z3 z4 z5
  have hsz : (⟨#[Kv.v ⟨T, Vt, B, E, ga, gn, gc, ha, hn, hc, sa, sn, sc, la, ln, lc, ps, bs, es⟩] ++ Array.replicate (fn.ntmps - (#[Kv.v ⟨T, Vt, B, E, ga, gn, gc, ha, hn, hc, sa, sn, sc, la, ln, lc, ps, bs, es⟩] : Array Value).size) undef, []⟩ : Act).tmps.size = 16 := by
    rw [Array.size_append, Array.size_replicate, hN]
    rfl
  have hdf : (⟨#[Kv.v ⟨T, Vt, B, E, ga, gn, gc, ha, hn, hc, sa, sn, sc, la, ln, lc, ps, bs, es⟩] ++ Array.replicate (fn.ntmps - (#[Kv.v ⟨T, Vt, B, E, ga, gn, gc, ha, hn, hc, sa, sn, sc, la, ln, lc, ps, bs, es⟩] : Array Value).size) undef, []⟩ : Act).defers = [] := rfl
  have h00 : (⟨#[Kv.v ⟨T, Vt, B, E, ga, gn, gc, ha, hn, hc, sa, sn, sc, la, ln, lc, ps, bs, es⟩] ++ Array.replicate (fn.ntmps - (#[Kv.v ⟨T, Vt, B, E, ga, gn, gc, ha, hn, hc, sa, sn, sc, la, ln, lc, ps, bs, es⟩] : Array Value).size) undef, []⟩ : Act).eval (.tmp 0) = Kv.v ⟨T, Vt, B, E, ga, gn, gc, ha, hn, hc, sa, sn, sc, la, ln, lc, ps, bs, es⟩ := frame_0
  generalize (⟨#[Kv.v ⟨T, Vt, B, E, ga, gn, gc, ha, hn, hc, sa, sn, sc, la, ln, lc, ps, bs, es⟩] ++ Array.replicate (fn.ntmps - (#[Kv.v ⟨T, Vt, B, E, ga, gn, gc, ha, hn, hc, sa, sn, sc, la, ln, lc, ps, bs, es⟩] : Array Value).size) undef, []⟩ : Act) = a at *
  refine wp_seq (wp_region_list ?_)
  refine wpl_box (us := [.int .i64 T, .int .i64 Vt, .int .i64 B, .int .i64 E, .slice ga gn gc, .slice ha hn hc, .slice sa sn sc, .slice la ln lc]) (by rw [h00]; rfl) ?_
  intro X1 x1 l1 n1
  refine wpl_alloc (zs := [.int .i64 0, .int .i64 0, .int .i64 0, .int .i64 0, .slice none 0 0, .slice none 0 0, .slice none 0 0, .slice none 0 0]) (z := .agg #[.int .i64 0, .int .i64 0, .int .i64 0, .int .i64 0, .slice none 0 0, .slice none 0 0, .slice none 0 0, .slice none 0 0]) (by kernel_rfl) rfl ?_
  intro W0 x2 l2 n2
  have S : So 16 w.heap.size X1.heap.size ((a.put (some 1) (.pointer (some ⟨w.heap.size, 0, none⟩))).put (some 2) (.pointer (some ⟨X1.heap.size, 0, none⟩))) := ⟨(put_ne (by omega)).trans (put_eq (by omega)), put_eq (by rw [put_sz]; omega), put_df.trans (put_df.trans hdf), put_sz.trans (put_sz.trans hsz)⟩
  have y1 := x1.later l2
  have L0 : Below w.heap.size w W0 := l1.trans (l2.mono (by omega))
  refine wpl_nil (wp_seq ?_)
  refine oc_step (off := 4) (n := 2) (az := [.int .i64 T, .int .i64 Vt, .int .i64 B, .int .i64 E]) (bs := [.slice ga gn gc, .slice ha hn hc]) (cs := [.slice sa sn sc, .slice la ln lc]) (R := fun vs V => mGroup.own V (fun q => W0.heap.size ≤ q ∧ q < V.heap.size) vs (((), ps), bs)) S (by decide) (by kernel_rfl) vA (.inl ⟨rfl, by kernel_rfl, by kernel_rfl⟩) (by kernel_rfl) ⟨_, Try.func22, by kernel_rfl, by kernel_rfl⟩ y1 rfl rfl ?_ ?_
  · refine (ownGroup_any ga gn gc ha hn hc ps bs W0 a1 a2 (a4.later L0) (a5.later L0) z1 z2).mono ?_
    rintro x V ⟨p, c, q, d, rfl, o1, o2, o3, hb⟩
    refine ⟨[.slice p gn c, .slice q hn d], rfl, rfl, rfl, one_app (one1 rfl) (one1 rfl), hb, [.slice p gn c], [.slice q hn d], fun j => (Value.slice p gn c).ownBlock = some j, fun j => (Value.slice q hn d).ownBlock = some j, rfl, fun j hj => o1.lt j hj, fun j hj => o2.lt j hj, fun j h1 h2 => o3 j h1 h2, ⟨[], [.slice p gn c], fun _ => False, _, rfl, fun _ h => h.elim, fun _ h => h, fun _ h => h.elim, rfl, own_int o1 (by show ps.length ≤ _; omega) _ (fun _ h => h)⟩, own_int o2 (by show bs.length ≤ _; omega) _ (fun _ h => h)⟩
  intro a V1 U1 vg S m1 og y1 g1 e1
  have M1 : Below w.heap.size w U1 := (L0.trans (m1.mono L0.size)).grown g1 (Nat.le_trans L0.size m1.size) (fun q hq => by have := Option.some.inj hq; omega)
  have x2 := (x2.later m1).other g1 (by omega)
  have og := mGroup.far og (fun q h => h.1) g1 (by have := L0.size; omega)
  have gl := mGroup.len og
  refine wp_seq (oc_step (off := 6) (n := 1) (az := [.int .i64 T, .int .i64 Vt, .int .i64 B, .int .i64 E] ++ vg) (bs := [.slice sa sn sc]) (cs := [.slice la ln lc]) (R := fun vs V => mByteS.own V (fun q => U1.heap.size ≤ q ∧ q < V.heap.size) vs ss) S (by decide) (by kernel_rfl) v1 (.inr ⟨rfl, ⟨by kernel_rfl, by kernel_rfl⟩, rfl⟩) (by kernel_rfl) ⟨_, Try.func96, by kernel_rfl, by kernel_rfl⟩ (by rw [List.append_assoc]; exact y1) (by rw [List.length_append, gl]; rfl) rfl ?_ ?_)
  · refine (cloneByte sa sn sc ss U1 b1 (b3.later M1) z3).mono ?_
    rintro x V ⟨p, c, rfl, o1, hb⟩
    exact ⟨[.slice p sn c], rfl, rfl, rfl, one1 rfl, hb, own_byte o1 b2 (by omega) _ (fun q hq => o1.lt q hq)⟩
  intro a V2 U2 vs S m2 os y2 g2 e2
  have M2 : Below w.heap.size w U2 := (M1.trans (m2.mono M1.size)).grown g2 (Nat.le_trans M1.size m2.size) (fun q hq => by have := Option.some.inj hq; omega)
  have x2 := (x2.later m2).other g2 (by omega)
  have og := mGroup.far (mGroup.lat og m2) (fun q h => h.1) g2 (by have := L0.size; omega)
  have os := mByteS.far os (fun q h => h.1) g2 (by have := M1.size; have := L0.size; have := m1.size; omega)
  have sl := mByteS.len os
  refine wp_seq (oc_step (off := 7) (n := 1) (az := ([.int .i64 T, .int .i64 Vt, .int .i64 B, .int .i64 E] ++ vg) ++ vs) (bs := [.slice la ln lc]) (cs := []) (R := fun vl V => mEntryS.own V (fun q => U2.heap.size ≤ q ∧ q < V.heap.size) vl (es.map enX)) S (by decide) (by kernel_rfl) v1 (.inr ⟨rfl, ⟨by kernel_rfl, by kernel_rfl⟩, rfl⟩) (by kernel_rfl) ⟨_, Try.func97, by kernel_rfl, by kernel_rfl⟩ (by rw [List.append_assoc]; exact y2) (by rw [List.length_append, List.length_append, gl, sl]; rfl) rfl ?_ ?_)
  · refine (ownEnt_c la ln lc es U2 a3 (a6.later M2) (fun e he => (a7 e he).later M2) z4 z5).mono ?_
    rintro x V ⟨v, rfl, vc, o1, hb⟩
    exact ⟨[v], rfl, (by cases v <;> first | rfl | cases vc), rfl, one1 vc, hb, o1⟩
  intro a V3 U3 vl S m3 ol y3 g3 e3
  have M3 : Below w.heap.size w U3 := (M2.trans (m3.mono M2.size)).grown g3 (Nat.le_trans M2.size m3.size) (fun q hq => by have := Option.some.inj hq; omega)
  have x2 := (x2.later m3).other g3 (by omega)
  have s1 := L0.size
  have s2 := m1.size
  have s3 := m2.size
  have s4 := m3.size
  have og := mGroup.far (mGroup.lat og m3) (fun q h => h.1) g3 (by omega)
  have os := mByteS.far (mByteS.lat os m3) (fun q h => h.1) g3 (by omega)
  have ol := mEntryS.far ol (fun q h => h.1) g3 (by omega)
  have ll := mEntryS.len ol
  have o1g := mGroup.one og
  have o1s := mByteS.one os
  have o1l := mEntryS.one ol
  rw [List.append_nil] at y3
  refine cell_tail (n := 8) (us := (([.int .i64 T, .int .i64 Vt, .int .i64 B, .int .i64 E] ++ vg) ++ vs) ++ vl) S (by decide) ⟨by kernel_rfl, by kernel_rfl⟩ (by rw [List.length_append, List.length_append, List.length_append, gl, sl, ll]; rfl) (one_app (one_app (one_app (one_app (one_app (one_app (one1 rfl) (one1 rfl)) (one1 rfl)) (one1 rfl)) o1g) o1s) o1l) rfl y3 x2 hres ?_
  intro V g4 e4
  have hX : X1.heap.size = w.heap.size + 1 := n1
  have og := mGroup.far og (fun q h => h.1) g4 (by omega)
  have os := mByteS.far os (fun q h => h.1) g4 (by omega)
  have ol := mEntryS.far ol (fun q h => h.1) g4 (by omega)
  refine ⟨_, rfl, ?_, M3.grown g4 M3.size (fun q hq => by have := Option.some.inj hq; omega)⟩
  refine ⟨([.int .i64 T, .int .i64 Vt, .int .i64 B, .int .i64 E] ++ vg) ++ vs, vl, fun q => W0.heap.size ≤ q ∧ q < V2.heap.size, fun q => U2.heap.size ≤ q ∧ q < V3.heap.size, rfl, fun q h => ⟨by omega, by omega⟩, fun q h => ⟨by omega, by omega⟩, fun q h1 h2 => by omega, ?_, ol⟩
  refine ⟨[.int .i64 T, .int .i64 Vt, .int .i64 B, .int .i64 E] ++ vg, vs, fun q => W0.heap.size ≤ q ∧ q < V1.heap.size, fun q => U1.heap.size ≤ q ∧ q < V2.heap.size, rfl, fun q h => ⟨by omega, by omega⟩, fun q h => ⟨by omega, by omega⟩, fun q h1 h2 => by omega, ?_, os⟩
  refine ⟨[.int .i64 T, .int .i64 Vt, .int .i64 B, .int .i64 E], vg, fun _ => False, fun q => W0.heap.size ≤ q ∧ q < V1.heap.size, rfl, fun _ h => h.elim, fun _ h => h, fun _ h => h.elim, ?_, og⟩
  exact ⟨[.int .i64 T, .int .i64 Vt, .int .i64 B], [.int .i64 E], fun _ => False, fun _ => False, rfl, fun _ h => h, fun _ h => h, fun _ h => h.elim, ⟨[.int .i64 T, .int .i64 Vt], [.int .i64 B], fun _ => False, fun _ => False, rfl, fun _ h => h, fun _ h => h, fun _ h => h.elim, ⟨[.int .i64 T], [.int .i64 Vt], fun _ => False, fun _ => False, rfl, fun _ h => h, fun _ h => h, fun _ h => h.elim, ⟨[], [.int .i64 T], fun _ => False, fun _ => False, rfl, fun _ h => h, fun _ h => h, fun _ h => h.elim, rfl, rfl⟩, rfl⟩, rfl⟩, rfl⟩
end
theorem ownKeep_c (k : Kv) (ss : List Int) (w : World) (hF : KvF w k ss) (hs : KvS k) :
    Calls Try.prog 67 #[k.v] w fun x V => ∃ us, x = .returned (vA us) ∧ mKeep.own V (fun q => w.heap.size ≤ q ∧ q < V.heap.size) us (keX k ss) ∧ Below w.heap.size w V := by
  refine calls_of_wp Try.func67 rfl ?_
  exact ownKeep_walk rfl rfl k ss w hF hs

end Go.Proofs.Ytmfbmnpfgbenmaa
