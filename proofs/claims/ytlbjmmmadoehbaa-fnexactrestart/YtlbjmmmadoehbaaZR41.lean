/-
  The exact law of Restart: its walk.
-/
import Derived.Test.YtlbjmmmadoehbaaZR40
namespace Go.Proofs.Ytlbjmmmadoehbaa
open Go.ChangeShapes Go.WideShapes Go.ChangeAt Go.RowKit Go.Joins Go.Deep

theorem Env.nil {N : Nat} {E : Nat → Option Value} {a : Act} (S : Env N E a) : Env N (fun _ => none) a := ⟨fun _ _ h => (by cases h), S.df, S.sz⟩
theorem Env.add {N t : Nat} {E : Nat → Option Value} {a : Act} {v : Value} (S : Env N E a) (h : a.eval (.tmp t) = v) : Env N (upd E t v) a := by
  refine ⟨fun u x hx => ?_, S.df, S.sz⟩
  unfold upd at hx
  by_cases e : u = t
  · rw [if_pos e] at hx
    subst e
    rw [← Option.some.inj hx]
    exact h
  · rw [if_neg e] at hx
    exact S.get u x hx
theorem env_gen {N : Nat} {E : Nat → Option Value} {a : Act} {C : Act → Prop} (S : Env N E a) (h : ∀ a, Env N E a → C a) : C a := h a S
theorem box_seg {W : World} {p : Nat} {us : List Value} (h : Box W p us) : Seg W p 0 us := Box.seg (us := []) (ts := []) (by rw [List.nil_append, List.append_nil]; exact h) rfl
theorem psum_one {α : Type} {f : α → Nat} (h : ∀ x, f x = 1) : ∀ xs : List α, psum f xs xs.length = xs.length
  | [] => rfl
  | x :: t => by
      have := psum_one h t
      have := h x
      show f x + psum f t t.length = t.length + 1
      omega
theorem ent_cnt : ∀ xs : List EnA, ((psum mEntry.cntF xs xs.length : Nat) : Int) ≤ 2 * ((xs.length : Int) + sumT cEntry.tot xs)
  | [] => by decide
  | x :: t => by
      have h1 := ent_cnt t
      obtain ⟨⟨⟨⟨⟩, x0⟩, x1⟩, x2⟩ := x
      have h2 : mEntry.cntF ((((), x0), x1), x2) = 0 + 1 + 1 + psum mByte.cntF x2 x2.length := rfl
      rw [psum_one (f := mByte.cntF) (fun _ => rfl)] at h2
      have h3 : cEntry.tot ((((), x0), x1), x2) = 0 + 0 + 0 + ((x2.length : Int) + sumT cByte.tot x2) := rfl
      rw [sumT_zero (f := cByte.tot) (fun _ => rfl)] at h3
      show ((mEntry.cntF ((((), x0), x1), x2) + psum mEntry.cntF t t.length : Nat) : Int) ≤ 2 * (((t.length + 1 : Nat) : Int) + (cEntry.tot ((((), x0), x1), x2) + sumT cEntry.tot t))
      omega
/-- How large a Keep is at most: its parts, its marks. -/
theorem ke_tot {k : Kv} {ss : List Int} {w : World} (h : KvF w k ss) (ht : cKeep.tot (keX k ss) ≤ 1048576) : KvS k ∧ mKeep.cntV (keX k ss) ≤ 4194304 := by
  have e : cKeep.tot (keX k ss) = 0 + 0 + 0 + 0 + 0 + (0 + ((k.ps.length : Int) + sumT cInt.tot k.ps) + ((k.bs.length : Int) + sumT cInt.tot k.bs)) + ((ss.length : Int) + sumT cByte.tot ss) + (((k.es.map enX).length : Int) + sumT cEntry.tot (k.es.map enX)) := rfl
  rw [sumT_zero (f := cInt.tot) (fun _ => rfl), sumT_zero (f := cInt.tot) (fun _ => rfl), sumT_zero (f := cByte.tot) (fun _ => rfl), List.length_map] at e
  have n1 := sumT_nn cEntry.nn (k.es.map enX)
  have c : mKeep.cntV (keX k ss) = 0 + 0 + 0 + 0 + 0 + (0 + psum mInt.cntF k.ps k.ps.length + psum mInt.cntF k.bs k.bs.length) + psum mByte.cntF ss ss.length + psum mEntry.cntF (k.es.map enX) (k.es.map enX).length := rfl
  rw [psum_one (f := mInt.cntF) (fun _ => rfl), psum_one (f := mInt.cntF) (fun _ => rfl), psum_one (f := mByte.cntF) (fun _ => rfl)] at c
  have c2 := ent_cnt (k.es.map enX)
  rw [List.length_map] at c2 c
  have h1 := h.r.hg
  have h2 := h.r.hh
  have h3 := h.hs
  have h4 := h.r.hl
  refine ⟨⟨by omega, by omega, by omega, by omega, fun e he => ?_⟩, by omega⟩
  have hm : enX e ∈ k.es.map enX := List.mem_map.2 ⟨e, he, rfl⟩
  have := sumT_mem cEntry.nn hm
  have h5 : cEntry.tot (enX e) = 0 + 0 + 0 + ((e.zs.length : Int) + sumT cByte.tot e.zs) := rfl
  rw [sumT_zero (f := cByte.tot) (fun _ => rfl)] at h5
  have := (h.r.dt e he).1
  omega
theorem sv_tot {id : Int} {k : Kv} {ss : List Int} (ht : cKeep.tot (keX k ss) ≤ 1048576) : cServer.tot (svB id k ss) ≤ 1048576 := by
  unfold svB
  split
  · have e : cServer.tot (svY id (keX k ss) k.B) = 0 + 0 + cKeep.tot (keX k ss) + 0 + 0 + 0 + ((([] : List Int).length : Int) + 0) + 0 + 0 + 0 + 0 := rfl
    rw [e, List.length_nil]
    omega
  · decide
theorem sv_cnt {id : Int} {k : Kv} {ss : List Int} (ht : mKeep.cntV (keX k ss) ≤ 4194304) : mServer.cntV (svB id k ss) ≤ 4194304 := by
  unfold svB
  split
  · have e : mServer.cntV (svY id (keX k ss) k.B) = 0 + 0 + mKeep.cntV (keX k ss) + 0 + 0 + 0 + 0 + 0 + 0 + 0 + 0 := rfl
    rw [e]
    omega
  · decide
theorem ret_b {P : Program} {fn : Func} {R : Ending → World → Prop} {a : Act} {W : World} {N : Nat} {E : Nat → Option Value} {v : Value} (S : Env N E a) (hres : fn.results = #[.tmp 4]) (h : E 4 = some v) (hR : R (.returned v) W) : bodyPost P fn R .ret a W := z_ret hres (S.get 4 _ h) S.df hR

set_option maxRecDepth 20000 in
set_option maxHeartbeats 8000000 in
theorem lawRestart (id : Int) (us : List Value) (x : KeA) (w : World) (h : cKeep.rep w 0 us x) :
    Calls Try.prog 3 #[.int .i64 id, vA us] w fun e w' => e = .returned (.bool true) ∧ Below w.heap.size w w' := by
  have hpan := pan_body (P := Try.prog) (fn := Try.f3) (R := fun e w' => e = .returned (.bool true) ∧ Below w.heap.size w w')
  obtain ⟨k, ss, rfl, rfl, HF, _⟩ := keep_read h
  have hid0 : Below w.heap.size w w := Below.refl _ w
  refine calls_of_wp Try.func3 rfl ?_
  refine env2 (N := 74) rfl (by decide) ?_
  intro a S
  refine wp_seq (wp_region_list ?_)
  refine wpl_box (us := k.cells) (by rw [S.get 1 _ rfl]; rfl) ?_
  intro W1 B3 M n1
  have S := S.put (by decide : 3 < 74) (.pointer (some ⟨w.heap.size, 0, none⟩))
  refine wpl_val (ex_assign (v := (.bool false)) rfl _) ?_
  have S := S.put (by decide : 4 < 74) (.bool false)
  refine wpl_nil ?_
  have S := ((S.nil).add (S.get 0 _ rfl)).add (S.get 3 _ rfl)
  refine env_gen (C := fun a => Code.wp Try.prog _ _ a _) S ?_
  clear S; intro a S
  refine wp_seq (wp_region_list ?_)
  refine wpl_val (ex_assign (v := (.int .i64 1048576)) rfl _) ?_
  have S := S.put (by decide : 5 < 74) (.int .i64 1048576)
  refine wpl_nil ?_
  have S := (((S.nil).add (S.get 0 _ rfl)).add (S.get 3 _ rfl)).add (S.get 5 _ rfl)
  refine env_gen (C := fun a => Code.wp Try.prog _ _ a _) S ?_
  clear S; intro a S
  refine wp_seq (wp_region_list ?_)
  refine wpl_val (ex_agg (us := k.cells) (n := 8) (S.get 3 _ rfl) ⟨by kernel_rfl, by kernel_rfl⟩ rfl _ (box_seg B3)) ?_
  have S := S.put (by decide : 13 < 74) (.agg (List.toArray k.cells))
  refine wpl_val (ex_move (S.get 5 _ rfl) _) ?_
  have S := S.put (by decide : 14 < 74) (.int .i64 1048576)
  have zq0 : Act.eval _ (.tmp 13) = (.agg (List.toArray k.cells)) := S.get 13 _ rfl
  have zq1 : Act.eval _ (.tmp 14) = (.int .i64 1048576) := S.get 14 _ rfl
  refine wpl_call ⟨_, Try.func4, by kernel_rfl, by kernel_rfl⟩ (R := fun e V => e = .returned (.int .i64 (szL 1048576 (cKeep.tot (keX k ss)))) ∧ Below W1.heap.size W1 V) ?_ ?_
  · have hc := szKeep_c k.cells (keX k ss) W1 1048576 (cKeep.lat (cKeep.low h (Nat.zero_le _)) M) (by decide) (by decide)
    simp only [List.map_toArray, List.map_cons, List.map_nil, zq0, zq1]; exact hc
  rintro e V1 ⟨rfl, hb1⟩
  refine ⟨_, rfl, ?_⟩
  have B3 := B3.later hb1
  have M := M.trans (hb1.mono M.size)
  have z2 := hb1.size
  have S := S.put (by decide : 15 < 74) (.int .i64 (szL 1048576 (cKeep.tot (keX k ss))))
  refine wpl_val (ex_assign (S.get 15 _ rfl) _) ?_
  have S := S.put (by decide : 5 < 74) (.int .i64 (szL 1048576 (cKeep.tot (keX k ss))))
  refine wpl_nil ?_
  have S := (((S.nil).add (S.get 0 _ rfl)).add (S.get 3 _ rfl)).add (S.get 5 _ rfl)
  refine env_gen (C := fun a => Code.wp Try.prog _ _ a _) S ?_
  clear S; intro a S
  generalize hL : szL 1048576 (cKeep.tot (keX k ss)) = L at *
  refine wp_seq (wp_seq (wp_region_list ?_))
  refine wpl_val (ex_move (S.get 5 _ rfl) _) ?_
  have S := S.put (by decide : 16 < 74) (.int .i64 L)
  refine wpl_val (ex_bin (u := .int .i64 L) (v := .int .i64 0) (S.get 16 _ rfl) rfl _ (run_lss _)) ?_
  have S := S.put (by decide : 17 < 74) (.bool (decide (L < 0)))
  by_cases hneg : L < 0
  · rw [decide_eq_true hneg] at S ⊢
    refine wpl_nil (wp_cond_true (S.get 17 _ rfl) (wp_seq (wp_region_list (wpl_val (ex_assign (v := .bool true) rfl _) (wpl_nil (wp_ret ?_))))))
    exact (ret_b (P := Try.prog) (fn := Try.f3) (R := fun e w' => e = .returned (.bool true) ∧ Below w.heap.size w w') (S.put (by decide : 4 < 74) (.bool true)) rfl rfl ⟨rfl, M⟩)
  rw [decide_eq_false hneg] at S ⊢
  refine wpl_nil ?_
  have ht : cKeep.tot (keX k ss) ≤ 1048576 := by
    by_cases ht : cKeep.tot (keX k ss) ≤ 1048576
    · exact ht
    · rw [szL_no ht] at hL; omega
  clear hL hneg
  obtain ⟨HS, hcnt⟩ := ke_tot HF ht
  refine wp_cond_false (S.get 17 _ rfl) (wp_skip ?_)
  have S := ((S.nil).add (S.get 0 _ rfl)).add (S.get 3 _ rfl)
  refine env_gen (C := fun a => Code.wp Try.prog _ _ a _) S ?_
  clear S; intro a S
  refine wp_seq (wp_region_list ?_)
  refine wpl_val (ex_move (S.get 0 _ rfl) _) ?_
  have S := S.put (by decide : 18 < 74) (.int .i64 id)
  refine wpl_val (ex_agg (us := k.cells) (n := 8) (S.get 3 _ rfl) ⟨by kernel_rfl, by kernel_rfl⟩ rfl _ (box_seg B3)) ?_
  have S := S.put (by decide : 19 < 74) (.agg (List.toArray k.cells))
  have zq0 : Act.eval _ (.tmp 19) = (.agg (List.toArray k.cells)) := S.get 19 _ rfl
  refine wpl_call ⟨_, Try.func6, by kernel_rfl, by kernel_rfl⟩ (R := fun e V => ∃ q : Kv, e = .returned q.v ∧ KvE k q ∧ KvO V V1.heap.size q ss ∧ KvD q ∧ Below V1.heap.size V1 V) ?_ ?_
  · have hc := toKeep_dst k ss V1 (HF.later M) HS
    simp only [List.map_toArray, List.map_cons, List.map_nil, zq0]; exact hc
  rintro e V3 ⟨kq0, rfl, HE0, HO0, HD0, hb2⟩
  refine ⟨_, rfl, ?_⟩
  have B3 := B3.later hb2
  have M := M.trans (hb2.mono M.size)
  have z4 := hb2.size
  have S := S.put (by decide : 20 < 74) (Kv.v kq0)
  have zq0 : Act.eval _ (.tmp 18) = (.int .i64 id) := S.get 18 _ rfl
  have zq1 : Act.eval _ (.tmp 20) = (Kv.v kq0) := S.get 20 _ rfl
  refine wpl_call ⟨_, Try.func5, by kernel_rfl, by kernel_rfl⟩ (R := fun e V => ∃ us, e = .returned (vA us) ∧ cServer.rep V V3.heap.size us (svB id kq0 ss) ∧ Below V3.heap.size V3 V) ?_ ?_
  · have hc := sRestart_c id kq0 ss V3 _ HO0 (KvE.s HE0 HS)
    simp only [List.map_toArray, List.map_cons, List.map_nil, zq0, zq1]; exact hc
  rintro e V5 ⟨us6, rfl, R6, hb3⟩
  refine ⟨_, rfl, ?_⟩
  have B3 := B3.later hb3
  have M := M.trans (hb3.mono M.size)
  have z6 := hb3.size
  have S := S.put (by decide : 21 < 74) (vA us6)
  rw [svB_same HE0] at R6
  replace R6 := cServer.low R6 (Nat.zero_le _)
  clear HE0 HO0 HD0
  have len6 : us6.length = 31 := cServer.len R6
  have one6 := cServer.one R6
  refine wpl_alloc (zs := svN) (z := .agg svN.toArray) (by kernel_rfl) rfl ?_
  intro X7 B6 l8 n9
  have p6 : ∃ p, p = V5.heap.size := ⟨_, rfl⟩
  obtain ⟨p6, ep6⟩ := p6
  rw [← ep6] at B6 ⊢
  have S := S.put (by decide : 6 < 74) (.pointer (some ⟨p6, 0, none⟩))
  refine wpl_store (off := 0) (n := 31) rfl 36 (.tmp 6) (.tmp 21) rfl (S.get 6 _ rfl) (S.get 21 _ rfl) us6 [] (svN) [] rfl one6 (by kernel_rfl) len6 (by rw [List.append_nil]; exact B6) rfl rfl ?_
  intro U10 B6 g11 _
  rw [List.nil_append, List.append_nil] at B6
  rw [put_none]
  have h12 : Below V5.heap.size V5 U10 := l8.grown g11 l8.size (fun q hq => by have := Option.some.inj hq; omega)
  have B3 := B3.later h12
  have M := M.trans (h12.mono M.size)
  replace R6 := cServer.lat R6 h12
  have z13 := h12.size
  refine wpl_nil ?_
  have S := (((S.nil).add (S.get 0 _ rfl)).add (S.get 3 _ rfl)).add (S.get 6 _ rfl)
  refine env_gen (C := fun a => Code.wp Try.prog _ _ a _) S ?_
  clear S; intro a S
  obtain ⟨D, eD⟩ : ∃ d, d = U10.heap.size := ⟨_, rfl⟩
  have hp3 : w.heap.size < D := by rw [eD]; exact B3.lt
  have hp6 : p6 < D := by rw [eD]; exact B6.lt
  have MX : Below D U10 U10 := Below.refl _ _
  have hX : D ≤ U10.heap.size := by omega
  have R6x := R6
  have hXD : U10.heap.size = D := eD.symm
  refine wp_seq (wp_region_list ?_)
  refine wpl_val (ex_agg (us := k.cells) (n := 8) (S.get 3 _ rfl) ⟨by kernel_rfl, by kernel_rfl⟩ rfl _ (box_seg B3)) ?_
  have S := S.put (by decide : 22 < 74) (.agg (List.toArray k.cells))
  have zq0 : Act.eval _ (.tmp 22) = (.agg (List.toArray k.cells)) := S.get 22 _ rfl
  refine wpl_call ⟨_, Try.func6, by kernel_rfl, by kernel_rfl⟩ (R := fun e V => ∃ q : Kv, e = .returned q.v ∧ KvE k q ∧ KvO V U10.heap.size q ss ∧ KvD q ∧ Below U10.heap.size U10 V) ?_ ?_
  · have hc := toKeep_dst k ss U10 (HF.later M) HS
    simp only [List.map_toArray, List.map_cons, List.map_nil, zq0]; exact hc
  rintro e V14 ⟨kq, rfl, HE, HO, HD, hb4⟩
  refine ⟨_, rfl, ?_⟩
  have B3 := B3.later hb4
  have B6 := B6.later hb4
  have M := M.trans (hb4.mono M.size)
  have MX := MX.trans (hb4.mono (Nat.le_trans hX MX.size))
  have z15 := hb4.size
  have S := S.put (by decide : 23 < 74) (Kv.v kq)
  have HSq := KvE.s HE HS
  have O7 := kvO_own HO HD HSq
  rw [keX_same HE] at O7
  obtain ⟨T7, eT7⟩ : ∃ d, d = V14.heap.size := ⟨_, rfl⟩
  rw [← eT7, hXD] at O7
  replace HO := HO.mono (Nat.zero_le _)
  clear HD
  refine wpl_alloc (zs := [.int .i64 0, .int .i64 0, .int .i64 0, .int .i64 0, .slice none 0 0, .slice none 0 0, .slice none 0 0, .slice none 0 0]) (z := .agg #[.int .i64 0, .int .i64 0, .int .i64 0, .int .i64 0, .slice none 0 0, .slice none 0 0, .slice none 0 0, .slice none 0 0]) (by kernel_rfl) rfl ?_
  intro X16 B7 l17 n18
  have p7 : ∃ p, p = V14.heap.size := ⟨_, rfl⟩
  obtain ⟨p7, ep7⟩ := p7
  rw [← ep7] at B7 ⊢
  have S := S.put (by decide : 7 < 74) (.pointer (some ⟨p7, 0, none⟩))
  refine wpl_store (off := 0) (n := 8) rfl 33 (.tmp 7) (.tmp 23) rfl (S.get 7 _ rfl) (S.get 23 _ rfl) kq.cells [] ([.int .i64 0, .int .i64 0, .int .i64 0, .int .i64 0, .slice none 0 0, .slice none 0 0, .slice none 0 0, .slice none 0 0]) [] rfl (mKeep.one O7) (by kernel_rfl) rfl (by rw [List.append_nil]; exact B7) rfl rfl ?_
  intro U19 B7 g20 _
  rw [List.nil_append, List.append_nil] at B7
  rw [put_none]
  have h21 : Below V14.heap.size V14 U19 := l17.grown g20 l17.size (fun q hq => by have := Option.some.inj hq; omega)
  have B3 := B3.later h21
  have B6 := B6.later h21
  have M := M.trans (h21.mono M.size)
  have MX := MX.trans (h21.mono (Nat.le_trans hX MX.size))
  replace HO := HO.later h21
  replace O7 := mKeep.lat O7 h21
  have z22 := h21.size
  refine wpl_nil ?_
  have S := ((((S.nil).add (S.get 0 _ rfl)).add (S.get 3 _ rfl)).add (S.get 6 _ rfl)).add (S.get 7 _ rfl)
  refine env_gen (C := fun a => Code.wp Try.prog _ _ a _) S ?_
  clear S; intro a S
  have hp7 : T7 ≤ p7 := by omega
  refine wp_seq (wp_region_list ?_)
  refine wpl_val (ex_move (S.get 0 _ rfl) _) ?_
  have S := S.put (by decide : 24 < 74) (.int .i64 id)
  refine wpl_val (ex_agg (us := kq.cells) (n := 8) (S.get 7 _ rfl) ⟨by kernel_rfl, by kernel_rfl⟩ rfl _ (box_seg B7)) ?_
  have S := S.put (by decide : 25 < 74) (.agg (List.toArray kq.cells))
  have zq0 : Act.eval _ (.tmp 24) = (.int .i64 id) := S.get 24 _ rfl
  have zq1 : Act.eval _ (.tmp 25) = (.agg (List.toArray kq.cells)) := S.get 25 _ rfl
  refine wpl_call ⟨_, Try.func7, by kernel_rfl, by kernel_rfl⟩ (R := fun e V => ∃ us, e = .returned (vA us) ∧ mServer.own V (fun x => U19.heap.size ≤ x ∧ x < V.heap.size) us (svB id kq ss) ∧ Below U19.heap.size U19 V) ?_ ?_
  · have hc := iRestart_c id kq ss U19 HO.f HSq
    simp only [List.map_toArray, List.map_cons, List.map_nil, zq0, zq1]; exact hc
  rintro e V23 ⟨us8, rfl, O8, hb5⟩
  refine ⟨_, rfl, ?_⟩
  have B3 := B3.later hb5
  have B6 := B6.later hb5
  have B7 := B7.later hb5
  have M := M.trans (hb5.mono M.size)
  have MX := MX.trans (hb5.mono (Nat.le_trans hX MX.size))
  replace HO := HO.later hb5
  replace O7 := mKeep.lat O7 hb5
  have z24 := hb5.size
  have S := S.put (by decide : 26 < 74) (vA us8)
  rw [svB_same HE] at O8
  obtain ⟨D8, eD8⟩ : ∃ d, d = U19.heap.size := ⟨_, rfl⟩
  obtain ⟨T8, eT8⟩ : ∃ d, d = V23.heap.size := ⟨_, rfl⟩
  rw [← eD8, ← eT8] at O8
  have hp78 : p7 < D8 := by rw [eD8]; omega
  have hT7D8 : T7 ≤ D8 := by omega
  have hDD8 : D ≤ D8 := by omega
  have len8 : us8.length = 31 := mServer.len O8
  have one8 := mServer.one O8
  clear HO
  refine wpl_alloc (zs := svN) (z := .agg svN.toArray) (by kernel_rfl) rfl ?_
  intro X25 B8 l26 n27
  have p8 : ∃ p, p = V23.heap.size := ⟨_, rfl⟩
  obtain ⟨p8, ep8⟩ := p8
  rw [← ep8] at B8 ⊢
  have S := S.put (by decide : 8 < 74) (.pointer (some ⟨p8, 0, none⟩))
  refine wpl_store (off := 0) (n := 31) rfl 36 (.tmp 8) (.tmp 26) rfl (S.get 8 _ rfl) (S.get 26 _ rfl) us8 [] (svN) [] rfl one8 (by kernel_rfl) len8 (by rw [List.append_nil]; exact B8) rfl rfl ?_
  intro U28 B8 g29 _
  rw [List.nil_append, List.append_nil] at B8
  rw [put_none]
  have h30 : Below V23.heap.size V23 U28 := l26.grown g29 l26.size (fun q hq => by have := Option.some.inj hq; omega)
  have B3 := B3.later h30
  have B6 := B6.later h30
  have B7 := B7.later h30
  have M := M.trans (h30.mono M.size)
  have MX := MX.trans (h30.mono (Nat.le_trans hX MX.size))
  replace O7 := mKeep.lat O7 h30
  replace O8 := mServer.lat O8 h30
  have z31 := h30.size
  have hp8 : T8 ≤ p8 := by omega
  refine wpl_nil ?_
  have S := (((((S.nil).add (S.get 0 _ rfl)).add (S.get 3 _ rfl)).add (S.get 6 _ rfl)).add (S.get 7 _ rfl)).add (S.get 8 _ rfl)
  refine env_gen (C := fun a => Code.wp Try.prog _ _ a _) S ?_
  clear S; intro a S
  refine wp_seq (wp_seq (wp_region_list ?_))
  refine wpl_val (ex_agg (us := us8) (n := 31) (S.get 8 _ rfl) ⟨by kernel_rfl, by kernel_rfl⟩ len8 _ (box_seg B8)) ?_
  have S := S.put (by decide : 27 < 74) (.agg (List.toArray us8))
  refine wpl_val (ex_agg (us := us6) (n := 31) (S.get 6 _ rfl) ⟨by kernel_rfl, by kernel_rfl⟩ len6 _ (box_seg B6)) ?_
  have S := S.put (by decide : 28 < 74) (.agg (List.toArray us6))
  have zq0 : Act.eval _ (.tmp 27) = (.agg (List.toArray us8)) := S.get 27 _ rfl
  have zq1 : Act.eval _ (.tmp 28) = (.agg (List.toArray us6)) := S.get 28 _ rfl
  refine wpl_call ⟨_, Try.func8, by kernel_rfl, by kernel_rfl⟩ (R := fun e V => e = .returned (.bool true) ∧ Below U28.heap.size U28 V) ?_ ?_
  · have hc := eqServer_c us8 us6 (svB id k ss) U28 (mServer.rep0 O8) (cServer.lat R6x (by rw [hXD]; exact MX)) (sv_tot ht)
    simp only [List.map_toArray, List.map_cons, List.map_nil, zq0, zq1]; exact hc
  rintro e V33 ⟨rfl, hb32⟩
  refine ⟨_, rfl, ?_⟩
  have B3 := B3.later hb32
  have B6 := B6.later hb32
  have B7 := B7.later hb32
  have B8 := B8.later hb32
  have M := M.trans (hb32.mono M.size)
  have MX := MX.trans (hb32.mono (Nat.le_trans hX MX.size))
  replace O7 := mKeep.lat O7 hb32
  replace O8 := mServer.lat O8 hb32
  have z34 := hb32.size
  have S := S.put (by decide : 29 < 74) (.bool true)
  refine wpl_val (ex_not (S.get 29 _ rfl) _) ?_
  have S := S.put (by decide : 30 < 74) (.bool (!true))
  refine wpl_nil ?_
  refine wp_cond_false (S.get 30 _ rfl) (wp_skip ?_)
  have S := (((((S.nil).add (S.get 0 _ rfl)).add (S.get 3 _ rfl)).add (S.get 6 _ rfl)).add (S.get 7 _ rfl)).add (S.get 8 _ rfl)
  refine env_gen (C := fun a => Code.wp Try.prog _ _ a _) S ?_
  clear S; intro a S
  refine wp_seq (wp_seq ?_)
  have hS : (fun V => Box V p7 kq.cells ∧ Box V w.heap.size k.cells) V33.drew := ⟨B7.later (Below.refl _ V33).drew, B3.later (Below.refl _ V33).drew⟩
  have hdr : Below V33.heap.size V33 V33.drew := (Below.refl _ V33).drew
  have B3 := B3.later hdr
  have B6 := B6.later hdr
  have B7 := B7.later hdr
  have B8 := B8.later hdr
  have M := M.trans (hdr.mono M.size)
  have MX := MX.trans (hdr.mono (Nat.le_trans hX MX.size))
  replace O7 := mKeep.lat O7 hdr
  replace O8 := mServer.lat O8 hdr
  have z35 := hdr.size
  refine wp_region_held_drew (S := fun V => Box V p7 kq.cells ∧ Box V w.heap.size k.cells) (by kernel_rfl) hS (fun _ => ?_)
  refine dr_val 0 31 rfl (by kernel_rfl) (fun c a d v w hq => hpan c a d v w hq) (fun V hV => ex_agg (us := kq.cells) (n := 8) (S.get 7 _ rfl) ⟨by kernel_rfl, by kernel_rfl⟩ rfl V (box_seg hV.1)) hS ?_
  have S := S.put (by decide : 31 < 74) (.agg (List.toArray kq.cells))
  refine dr_val 1 32 rfl (by kernel_rfl) (fun c a d v w hq => hpan c a d v w hq) (fun V hV => ex_agg (us := k.cells) (n := 8) (S.get 3 _ rfl) ⟨by kernel_rfl, by kernel_rfl⟩ rfl V (box_seg hV.2)) hS ?_
  have S := S.put (by decide : 32 < 74) (.agg (List.toArray k.cells))
  have zq0 : Act.eval _ (.tmp 32) = (.agg (List.toArray k.cells)) := S.get 32 _ rfl
  refine dr_call 2 33 (R := fun e V => ∃ us, e = .returned (vA us) ∧ cKeep.rep V V33.drew.heap.size us (keX k ss) ∧ Below V33.drew.heap.size V33.drew V) rfl (by kernel_rfl) ⟨_, Try.func6, by kernel_rfl, by kernel_rfl⟩ ?_ ?_
  · have hc := toKeep_c k.cells (keX k ss) V33.drew (cKeep.lat (cKeep.low h (Nat.zero_le _)) M) ht
    simp only [List.map_toArray, List.map_cons, List.map_nil, zq0]; exact hc
  rintro e V36 ⟨us9, rfl, R9, hb8⟩
  have B3 := B3.later hb8
  have B6 := B6.later hb8
  have B7 := B7.later hb8
  have B8 := B8.later hb8
  have M := M.trans (hb8.mono M.size)
  have MX := MX.trans (hb8.mono (Nat.le_trans hX MX.size))
  replace O7 := mKeep.lat O7 hb8
  replace O8 := mServer.lat O8 hb8
  have z37 := hb8.size
  replace hS : (fun V => Box V p7 kq.cells ∧ Box V w.heap.size k.cells) V36 := ⟨hS.1.later hb8, hS.2.later hb8⟩
  refine ⟨_, rfl, hS, ?_⟩
  have S := S.put (by decide : 33 < 74) (vA us9)
  have zq0 : Act.eval _ (.tmp 31) = (.agg (List.toArray kq.cells)) := S.get 31 _ rfl
  have zq1 : Act.eval _ (.tmp 33) = (vA us9) := S.get 33 _ rfl
  refine dr_call 3 34 (R := fun e V => e = .returned (.bool true) ∧ Below V36.heap.size V36 V) rfl (by kernel_rfl) ⟨_, Try.func9, by kernel_rfl, by kernel_rfl⟩ ?_ ?_
  · have hc := eqKeep_c kq.cells us9 (keX k ss) V36 (mKeep.rep0 O7) (cKeep.low R9 (Nat.zero_le _)) ht
    simp only [List.map_toArray, List.map_cons, List.map_nil, zq0, zq1]; exact hc
  rintro e V38 ⟨rfl, hb9⟩
  have B3 := B3.later hb9
  have B6 := B6.later hb9
  have B7 := B7.later hb9
  have B8 := B8.later hb9
  have M := M.trans (hb9.mono M.size)
  have MX := MX.trans (hb9.mono (Nat.le_trans hX MX.size))
  replace O7 := mKeep.lat O7 hb9
  replace O8 := mServer.lat O8 hb9
  have z39 := hb9.size
  replace hS : (fun V => Box V p7 kq.cells ∧ Box V w.heap.size k.cells) V38 := ⟨hS.1.later hb9, hS.2.later hb9⟩
  refine ⟨_, rfl, hS, ?_⟩
  have S := S.put (by decide : 34 < 74) (.bool true)
  refine dr_val 4 35 rfl (by kernel_rfl) (fun c a d v w hq => hpan c a d v w hq) (fun V _ => ex_not (S.get 34 _ rfl) V) hS ?_
  have S := S.put (by decide : 35 < 74) (.bool (!true))
  refine ⟨by kernel_rfl, ?_⟩
  refine wp_cond_false (S.get 35 _ rfl) (wp_skip ?_)
  have S := (((((S.nil).add (S.get 0 _ rfl)).add (S.get 3 _ rfl)).add (S.get 6 _ rfl)).add (S.get 7 _ rfl)).add (S.get 8 _ rfl)
  refine env_gen (C := fun a => Code.wp Try.prog _ _ a _) S ?_
  clear S; intro a S
  refine wp_seq (wp_region_list ?_)
  refine wpl_val (ex_assign (v := (.int .i64 1)) rfl _) ?_
  have S := S.put (by decide : 9 < 74) (.int .i64 1)
  refine wpl_nil ?_
  have S := ((((((S.nil).add (S.get 0 _ rfl)).add (S.get 3 _ rfl)).add (S.get 6 _ rfl)).add (S.get 7 _ rfl)).add (S.get 8 _ rfl)).add (S.get 9 _ rfl)
  refine env_gen (C := fun a => Code.wp Try.prog _ _ a _) S ?_
  clear S; intro a S
  refine wp_seq (wp_region_list ?_)
  refine wpl_val (ex_agg (us := kq.cells) (n := 8) (S.get 7 _ rfl) ⟨by kernel_rfl, by kernel_rfl⟩ rfl _ (box_seg B7)) ?_
  have S := S.put (by decide : 36 < 74) (.agg (List.toArray kq.cells))
  refine wpl_val (ex_move (S.get 9 _ rfl) _) ?_
  have S := S.put (by decide : 37 < 74) (.int .i64 1)
  have zq0 : Act.eval _ (.tmp 36) = .agg (List.toArray kq.cells) := S.get 36 _ rfl
  have zq1 : Act.eval _ (.tmp 37) = .int .i64 1 := S.get 37 _ rfl
  refine wpl_call ⟨_, Try.func10, by kernel_rfl, by kernel_rfl⟩ (R := fun e V => e = .returned (.int .i64 (1 + (mKeep.cntV (keX k ss) : Nat))) ∧ Chg (fun x => D ≤ x ∧ x < T7) V38 V) ?_ ?_
  · have hc := (mkKeep_c kq.cells (keX k ss) V38 _ 1 O7 (by decide) (by omega)).mono (R' := fun e V => e = .returned (.int .i64 (1 + (mKeep.cntV (keX k ss) : Nat))) ∧ Chg (fun x => D ≤ x ∧ x < T7) V38 V) (fun _ _ h => ⟨h.1, h.2.1⟩)
    simp only [List.map_toArray, List.map_cons, List.map_nil, zq0, zq1]; exact hc
  rintro e V40 ⟨rfl, hch⟩
  refine ⟨_, rfl, ?_⟩
  replace O8 := mServer.chg O8 hch (fun q hq hq2 => by have := hq.1; have := hq2.2; omega)
  replace B3 := B3.chg hch (fun hq => by have := hq.1; have := hq.2; omega)
  replace B6 := B6.chg hch (fun hq => by have := hq.1; have := hq.2; omega)
  replace B7 := B7.chg hch (fun hq => by have := hq.1; have := hq.2; omega)
  replace B8 := B8.chg hch (fun hq => by have := hq.1; have := hq.2; omega)
  have hs8 := hch.size
  have hw8 := M.size
  have hx8 := MX.size
  replace MX := MX.trans (hch.below (Nat.le_trans hX MX.size) (fun q hq => by have := hq.1; omega))
  replace M := M.trans (hch.below M.size (fun q hq => by have := hq.1; omega))
  clear O7 hch
  have S := S.put (by decide : 38 < 74) (.int .i64 (1 + (mKeep.cntV (keX k ss) : Nat)))
  refine wpl_val (ex_assign (S.get 38 _ rfl) _) ?_
  have S := S.put (by decide : 9 < 74) (.int .i64 (1 + (mKeep.cntV (keX k ss) : Nat)))
  refine wpl_nil ?_
  have S := ((((((S.nil).add (S.get 0 _ rfl)).add (S.get 3 _ rfl)).add (S.get 6 _ rfl)).add (S.get 7 _ rfl)).add (S.get 8 _ rfl)).add (S.get 9 _ rfl)
  refine env_gen (C := fun a => Code.wp Try.prog _ _ a _) S ?_
  clear S; intro a S
  refine wp_seq (wp_seq (wp_region_list ?_))
  refine wpl_val (ex_move (S.get 9 _ rfl) _) ?_
  have S := S.put (by decide : 39 < 74) (.int .i64 (1 + (mKeep.cntV (keX k ss) : Nat)))
  refine wpl_val (ex_bin (u := .int .i64 (1 + (mKeep.cntV (keX k ss) : Nat))) (v := .int .i64 0) (S.get 39 _ rfl) rfl _ (run_lss _)) ?_
  rw [decide_eq_false (by omega : ¬ (1 + (mKeep.cntV (keX k ss) : Nat) : Int) < 0)]
  have S := S.put (by decide : 40 < 74) (.bool false)
  refine wpl_val (ex_move (S.get 40 _ rfl) _) ?_
  have S := S.put (by decide : 41 < 74) (.bool false)
  refine env_gen (C := fun a => wpList Try.prog _ _ _ a _) S ?_
  clear S; intro a S
  refine wg_yes (j := 2) (t := 41) (b := false) rfl (S.get 41 _ rfl) (by rw [S.sz]; decide) (ex_agg (us := us8) (n := 31) (S.get 8 _ rfl) ⟨by kernel_rfl, by kernel_rfl⟩ len8 _ (box_seg B8)) ?_
  have S := S.put (by decide : 42 < 74) (.agg (List.toArray us8))
  refine env_gen (C := fun a => wpList Try.prog _ _ _ a _) S ?_
  clear S; intro a S
  refine wg_yes (j := 2) (t := 41) (b := false) rfl (S.get 41 _ rfl) (by rw [S.sz]; decide) (ex_agg (us := us6) (n := 31) (S.get 6 _ rfl) ⟨by kernel_rfl, by kernel_rfl⟩ len6 _ (box_seg B6)) ?_
  have S := S.put (by decide : 43 < 74) (.agg (List.toArray us6))
  refine env_gen (C := fun a => wpList Try.prog _ _ _ a _) S ?_
  clear S; intro a S
  have zq0 : Act.eval _ (.tmp 42) = .agg (List.toArray us8) := S.get 42 _ rfl
  have zq1 : Act.eval _ (.tmp 43) = .agg (List.toArray us6) := S.get 43 _ rfl
  refine wg_call (R := fun e V => e = .returned (.bool true) ∧ Below V40.heap.size V40 V) (wan_yes (j := 2) (t := 41) (b := false) rfl (S.get 41 _ rfl) (by rw [S.sz]; decide)) ⟨_, Try.func8, by kernel_rfl, by kernel_rfl⟩ ?_ ?_
  · have hc := eqServer_c us8 us6 (svB id k ss) V40 (mServer.rep0 O8) (cServer.lat R6x (by rw [hXD]; exact MX)) (sv_tot ht)
    simp only [List.map_toArray, List.map_cons, List.map_nil, zq0, zq1]; exact hc
  rintro e V41 ⟨rfl, hb10⟩
  refine ⟨_, rfl, ?_⟩
  have B3 := B3.later hb10
  have B6 := B6.later hb10
  have B7 := B7.later hb10
  have B8 := B8.later hb10
  have M := M.trans (hb10.mono M.size)
  have MX := MX.trans (hb10.mono (Nat.le_trans hX MX.size))
  replace O8 := mServer.lat O8 hb10
  have z42 := hb10.size
  have S := S.put (by decide : 44 < 74) (.bool true)
  refine env_gen (C := fun a => wpList Try.prog _ _ _ a _) S ?_
  clear S; intro a S
  have hx44 : Act.eval _ (.tmp 44) = .bool true := S.get 44 _ rfl
  have hx41 : Act.eval _ (.tmp 41) = .bool false := S.get 41 _ rfl
  have hxz := S.sz
  refine wg_val (wan_yes (j := 2) (t := 41) (b := false) rfl hx41 (by rw [hxz]; decide)) (ex_not (b := true) hx44 _) ?_
  have S := S.put (by decide : 45 < 74) (.bool (!true))
  refine env_gen (C := fun a => wpList Try.prog _ _ _ a _) S ?_
  clear S; intro a S
  have hx45 : Act.eval _ (.tmp 45) = .bool (!true) := S.get 45 _ rfl
  have hx41 : Act.eval _ (.tmp 41) = .bool false := S.get 41 _ rfl
  refine wpl_val (ex_pickF (v := .bool (!true)) hx41 hx45 _) ?_
  have S := S.put (by decide : 46 < 74) (.bool (!true))
  refine wpl_nil ?_
  refine wp_cond_false (S.get 46 _ rfl) (wp_skip ?_)
  have S := ((((S.nil).add (S.get 0 _ rfl)).add (S.get 3 _ rfl)).add (S.get 6 _ rfl)).add (S.get 8 _ rfl)
  refine env_gen (C := fun a => Code.wp Try.prog _ _ a _) S ?_
  clear S; intro a S
  refine wp_seq (wp_region_list ?_)
  refine wpl_val (ex_assign (v := (.int .i64 1)) rfl _) ?_
  have S := S.put (by decide : 10 < 74) (.int .i64 1)
  refine wpl_nil ?_
  have S := (((((S.nil).add (S.get 0 _ rfl)).add (S.get 3 _ rfl)).add (S.get 6 _ rfl)).add (S.get 8 _ rfl)).add (S.get 10 _ rfl)
  refine env_gen (C := fun a => Code.wp Try.prog _ _ a _) S ?_
  clear S; intro a S
  refine wp_seq (wp_region_list ?_)
  refine wpl_val (ex_agg (us := us8) (n := 31) (S.get 8 _ rfl) ⟨by kernel_rfl, by kernel_rfl⟩ len8 _ (box_seg B8)) ?_
  have S := S.put (by decide : 47 < 74) (.agg (List.toArray us8))
  refine wpl_val (ex_move (S.get 10 _ rfl) _) ?_
  have S := S.put (by decide : 48 < 74) (.int .i64 1)
  have hcs := sv_cnt (id := id) hcnt
  have zq0 : Act.eval _ (.tmp 47) = .agg (List.toArray us8) := S.get 47 _ rfl
  have zq1 : Act.eval _ (.tmp 48) = .int .i64 1 := S.get 48 _ rfl
  refine wpl_call ⟨_, Try.func11, by kernel_rfl, by kernel_rfl⟩ (R := fun e V => e = .returned (.int .i64 (1 + (mServer.cntV (svB id k ss) : Nat))) ∧ Chg (fun x => D8 ≤ x ∧ x < T8) V41 V ∧ ∃ x', mServer.own V (fun x => D8 ≤ x ∧ x < T8) us8 x' ∧ mServer.byv x' 1 ∧ mServer.cntV x' = mServer.cntV (svB id k ss)) ?_ ?_
  · have hc := mkServer_c us8 (svB id k ss) V41 _ 1 O8 (by decide) (by omega)
    simp only [List.map_toArray, List.map_cons, List.map_nil, zq0, zq1]; exact hc
  rintro e V43 ⟨rfl, hch, x8, O8', hby, hcx⟩
  refine ⟨_, rfl, ?_⟩
  replace B3 := B3.chg hch (fun hq => by have := hq.1; have := hq.2; omega)
  replace B6 := B6.chg hch (fun hq => by have := hq.1; have := hq.2; omega)
  replace B8 := B8.chg hch (fun hq => by have := hq.1; have := hq.2; omega)
  have hw8 := M.size
  have hx8 := MX.size
  replace MX := MX.trans (hch.below (Nat.le_trans hX MX.size) (fun q hq => by have := hq.1; omega))
  replace M := M.trans (hch.below M.size (fun q hq => by have := hq.1; omega))
  replace O8 := O8'
  clear O8' hch
  have S := S.put (by decide : 49 < 74) (.int .i64 (1 + (mServer.cntV (svB id k ss) : Nat)))
  refine wpl_val (ex_assign (S.get 49 _ rfl) _) ?_
  have S := S.put (by decide : 10 < 74) (.int .i64 (1 + (mServer.cntV (svB id k ss) : Nat)))
  refine wpl_nil ?_
  have S := (((((S.nil).add (S.get 0 _ rfl)).add (S.get 3 _ rfl)).add (S.get 6 _ rfl)).add (S.get 8 _ rfl)).add (S.get 10 _ rfl)
  refine env_gen (C := fun a => Code.wp Try.prog _ _ a _) S ?_
  clear S; intro a S
  generalize hCS : (1 + (mServer.cntV (svB id k ss) : Nat) : Int) = m at *
  refine wp_seq (wp_region_list ?_)
  refine wpl_val (ex_assign (v := (.int .i64 1)) rfl _) ?_
  have S := S.put (by decide : 11 < 74) (.int .i64 1)
  refine wpl_nil ?_
  have S := ((((((S.nil).add (S.get 0 _ rfl)).add (S.get 3 _ rfl)).add (S.get 6 _ rfl)).add (S.get 8 _ rfl)).add (S.get 10 _ rfl)).add (S.get 11 _ rfl)
  refine env_gen (C := fun a => Code.wp Try.prog _ _ a _) S ?_
  clear S; intro a S
  refine wp_seq (wp_region_list ?_)
  refine wpl_val (ex_agg (us := us8) (n := 31) (S.get 8 _ rfl) ⟨by kernel_rfl, by kernel_rfl⟩ len8 _ (box_seg B8)) ?_
  have S := S.put (by decide : 50 < 74) (.agg (List.toArray us8))
  refine wpl_val (ex_move (S.get 11 _ rfl) _) ?_
  have S := S.put (by decide : 51 < 74) (.int .i64 1)
  have zq0 : Act.eval _ (.tmp 50) = (.agg (List.toArray us8)) := S.get 50 _ rfl
  have zq1 : Act.eval _ (.tmp 51) = (.int .i64 1) := S.get 51 _ rfl
  refine wpl_call ⟨_, Try.func12, by kernel_rfl, by kernel_rfl⟩ (R := fun e V => e = .returned (.int .i64 m) ∧ Below V43.heap.size V43 V) ?_ ?_
  · have hc := hdServer_c us8 x8 V43 1 (mServer.rep0 O8) hby (by decide) (by omega); rw [hcx, hCS] at hc
    simp only [List.map_toArray, List.map_cons, List.map_nil, zq0, zq1]; exact hc
  rintro e V45 ⟨rfl, hb44⟩
  refine ⟨_, rfl, ?_⟩
  have B3 := B3.later hb44
  have B6 := B6.later hb44
  have B8 := B8.later hb44
  have M := M.trans (hb44.mono M.size)
  have MX := MX.trans (hb44.mono (Nat.le_trans hX MX.size))
  replace O8 := mServer.lat O8 hb44
  have z46 := hb44.size
  have S := S.put (by decide : 52 < 74) (.int .i64 m)
  refine wpl_val (ex_assign (S.get 52 _ rfl) _) ?_
  have S := S.put (by decide : 11 < 74) (.int .i64 m)
  refine wpl_nil ?_
  have S := ((((((S.nil).add (S.get 0 _ rfl)).add (S.get 3 _ rfl)).add (S.get 6 _ rfl)).add (S.get 8 _ rfl)).add (S.get 10 _ rfl)).add (S.get 11 _ rfl)
  refine env_gen (C := fun a => Code.wp Try.prog _ _ a _) S ?_
  clear S; intro a S
  refine wp_seq (wp_seq (wp_region_list ?_))
  refine wpl_val (ex_move (S.get 11 _ rfl) _) ?_
  have S := S.put (by decide : 53 < 74) (.int .i64 m)
  refine wpl_val (ex_bin (u := .int .i64 m) (v := .int .i64 0) (S.get 53 _ rfl) rfl _ (run_lss _)) ?_
  rw [decide_eq_false (by omega : ¬ m < 0)]
  have S := S.put (by decide : 54 < 74) (.bool false)
  refine wpl_nil ?_
  refine wp_cond_false (S.get 54 _ rfl) (wp_skip ?_)
  have S := ((((((S.nil).add (S.get 0 _ rfl)).add (S.get 3 _ rfl)).add (S.get 6 _ rfl)).add (S.get 8 _ rfl)).add (S.get 10 _ rfl)).add (S.get 11 _ rfl)
  refine env_gen (C := fun a => Code.wp Try.prog _ _ a _) S ?_
  clear S; intro a S
  refine wp_seq (wp_seq (wp_region_list ?_))
  refine wpl_val (ex_move (S.get 11 _ rfl) _) ?_
  have S := S.put (by decide : 55 < 74) (.int .i64 m)
  refine wpl_val (ex_move (S.get 10 _ rfl) _) ?_
  have S := S.put (by decide : 56 < 74) (.int .i64 m)
  refine wpl_val (ex_bin (u := .int .i64 m) (v := .int .i64 m) (S.get 55 _ rfl) (S.get 56 _ rfl) _ (neq_int _ _ _)) ?_
  have S := S.put (by decide : 57 < 74) (.bool false)
  refine wpl_nil ?_
  refine wp_cond_false (S.get 57 _ rfl) (wp_skip ?_)
  have S := (((((S.nil).add (S.get 0 _ rfl)).add (S.get 3 _ rfl)).add (S.get 6 _ rfl)).add (S.get 8 _ rfl)).add (S.get 10 _ rfl)
  refine env_gen (C := fun a => Code.wp Try.prog _ _ a _) S ?_
  clear S; intro a S
  refine wp_seq (wp_region_list ?_)
  refine wpl_val (ex_move (S.get 0 _ rfl) _) ?_
  have S := S.put (by decide : 58 < 74) (.int .i64 id)
  refine wpl_val (ex_agg (us := k.cells) (n := 8) (S.get 3 _ rfl) ⟨by kernel_rfl, by kernel_rfl⟩ rfl _ (box_seg B3)) ?_
  have S := S.put (by decide : 59 < 74) (.agg (List.toArray k.cells))
  have zq0 : Act.eval _ (.tmp 59) = (.agg (List.toArray k.cells)) := S.get 59 _ rfl
  refine wpl_call ⟨_, Try.func6, by kernel_rfl, by kernel_rfl⟩ (R := fun e V => ∃ q : Kv, e = .returned q.v ∧ KvE k q ∧ KvO V V45.heap.size q ss ∧ KvD q ∧ Below V45.heap.size V45 V) ?_ ?_
  · have hc := toKeep_dst k ss V45 (HF.later M) HS
    simp only [List.map_toArray, List.map_cons, List.map_nil, zq0]; exact hc
  rintro e V47 ⟨kq3, rfl, HE3, HO3, _, hb20⟩
  refine ⟨_, rfl, ?_⟩
  have B3 := B3.later hb20
  have B6 := B6.later hb20
  have B8 := B8.later hb20
  have M := M.trans (hb20.mono M.size)
  have MX := MX.trans (hb20.mono (Nat.le_trans hX MX.size))
  replace O8 := mServer.lat O8 hb20
  have z48 := hb20.size
  have S := S.put (by decide : 60 < 74) (Kv.v kq3)
  have zq0 : Act.eval _ (.tmp 58) = (.int .i64 id) := S.get 58 _ rfl
  have zq1 : Act.eval _ (.tmp 60) = (Kv.v kq3) := S.get 60 _ rfl
  refine wpl_call ⟨_, Try.func7, by kernel_rfl, by kernel_rfl⟩ (R := fun e V => ∃ us, e = .returned (vA us) ∧ mServer.own V (fun x => V47.heap.size ≤ x ∧ x < V.heap.size) us (svB id kq3 ss) ∧ Below V47.heap.size V47 V) ?_ ?_
  · have hc := iRestart_c id kq3 ss V47 HO3.f (KvE.s HE3 HS)
    simp only [List.map_toArray, List.map_cons, List.map_nil, zq0, zq1]; exact hc
  rintro e V49 ⟨us12, rfl, O12, hb21⟩
  refine ⟨_, rfl, ?_⟩
  have B3 := B3.later hb21
  have B6 := B6.later hb21
  have B8 := B8.later hb21
  have M := M.trans (hb21.mono M.size)
  have MX := MX.trans (hb21.mono (Nat.le_trans hX MX.size))
  replace O8 := mServer.lat O8 hb21
  have z50 := hb21.size
  have S := S.put (by decide : 61 < 74) (vA us12)
  rw [svB_same HE3] at O12
  have len12 : us12.length = 31 := mServer.len O12
  have one12 := mServer.one O12
  have R12 : cServer.rep _ 0 us12 (svB id k ss) := mServer.rep0 O12
  refine wpl_alloc (zs := svN) (z := .agg svN.toArray) (by kernel_rfl) rfl ?_
  intro X51 B12 l52 n53
  have p12 : ∃ p, p = V49.heap.size := ⟨_, rfl⟩
  obtain ⟨p12, ep12⟩ := p12
  rw [← ep12] at B12 ⊢
  have S := S.put (by decide : 12 < 74) (.pointer (some ⟨p12, 0, none⟩))
  refine wpl_store (off := 0) (n := 31) rfl 36 (.tmp 12) (.tmp 61) rfl (S.get 12 _ rfl) (S.get 61 _ rfl) us12 [] (svN) [] rfl one12 (by kernel_rfl) len12 (by rw [List.append_nil]; exact B12) rfl rfl ?_
  intro U54 B12 g55 _
  rw [List.nil_append, List.append_nil] at B12
  rw [put_none]
  have h56 : Below V49.heap.size V49 U54 := l52.grown g55 l52.size (fun q hq => by have := Option.some.inj hq; omega)
  have B3 := B3.later h56
  have B6 := B6.later h56
  have B8 := B8.later h56
  have M := M.trans (h56.mono M.size)
  have MX := MX.trans (h56.mono (Nat.le_trans hX MX.size))
  replace O8 := mServer.lat O8 h56
  replace R12 := cServer.lat R12 h56
  have z57 := h56.size
  refine wpl_nil ?_
  have S := ((((((S.nil).add (S.get 0 _ rfl)).add (S.get 3 _ rfl)).add (S.get 6 _ rfl)).add (S.get 8 _ rfl)).add (S.get 10 _ rfl)).add (S.get 12 _ rfl)
  refine env_gen (C := fun a => Code.wp Try.prog _ _ a _) S ?_
  clear S; intro a S
  refine wp_seq (wp_seq (wp_region_list ?_))
  refine wpl_val (ex_agg (us := us12) (n := 31) (S.get 12 _ rfl) ⟨by kernel_rfl, by kernel_rfl⟩ len12 _ (box_seg B12)) ?_
  have S := S.put (by decide : 62 < 74) (.agg (List.toArray us12))
  refine wpl_val (ex_agg (us := us6) (n := 31) (S.get 6 _ rfl) ⟨by kernel_rfl, by kernel_rfl⟩ len6 _ (box_seg B6)) ?_
  have S := S.put (by decide : 63 < 74) (.agg (List.toArray us6))
  have zq0 : Act.eval _ (.tmp 62) = (.agg (List.toArray us12)) := S.get 62 _ rfl
  have zq1 : Act.eval _ (.tmp 63) = (.agg (List.toArray us6)) := S.get 63 _ rfl
  refine wpl_call ⟨_, Try.func8, by kernel_rfl, by kernel_rfl⟩ (R := fun e V => e = .returned (.bool true) ∧ Below U54.heap.size U54 V) ?_ ?_
  · have hc := eqServer_c us12 us6 (svB id k ss) U54 R12 (cServer.lat R6x (by rw [hXD]; exact MX)) (sv_tot ht)
    simp only [List.map_toArray, List.map_cons, List.map_nil, zq0, zq1]; exact hc
  rintro e V59 ⟨rfl, hb58⟩
  refine ⟨_, rfl, ?_⟩
  have B3 := B3.later hb58
  have B6 := B6.later hb58
  have B8 := B8.later hb58
  have B12 := B12.later hb58
  have M := M.trans (hb58.mono M.size)
  have MX := MX.trans (hb58.mono (Nat.le_trans hX MX.size))
  replace O8 := mServer.lat O8 hb58
  replace R12 := cServer.lat R12 hb58
  have z60 := hb58.size
  have S := S.put (by decide : 64 < 74) (.bool true)
  refine wpl_val (ex_not (S.get 64 _ rfl) _) ?_
  have S := S.put (by decide : 65 < 74) (.bool (!true))
  refine wpl_nil ?_
  refine wp_cond_false (S.get 65 _ rfl) (wp_skip ?_)
  have S := (((((S.nil).add (S.get 0 _ rfl)).add (S.get 3 _ rfl)).add (S.get 6 _ rfl)).add (S.get 8 _ rfl)).add (S.get 10 _ rfl)
  refine env_gen (C := fun a => Code.wp Try.prog _ _ a _) S ?_
  clear S; intro a S
  refine wp_seq (wp_region_list ?_)
  refine wpl_val (ex_assign (v := (.int .i64 1)) rfl _) ?_
  have S := S.put (by decide : 11 < 74) (.int .i64 1)
  refine wpl_nil ?_
  have S := ((((((S.nil).add (S.get 0 _ rfl)).add (S.get 3 _ rfl)).add (S.get 6 _ rfl)).add (S.get 8 _ rfl)).add (S.get 10 _ rfl)).add (S.get 11 _ rfl)
  refine env_gen (C := fun a => Code.wp Try.prog _ _ a _) S ?_
  clear S; intro a S
  refine wp_seq (wp_region_list ?_)
  refine wpl_val (ex_agg (us := us8) (n := 31) (S.get 8 _ rfl) ⟨by kernel_rfl, by kernel_rfl⟩ len8 _ (box_seg B8)) ?_
  have S := S.put (by decide : 66 < 74) (.agg (List.toArray us8))
  refine wpl_val (ex_move (S.get 11 _ rfl) _) ?_
  have S := S.put (by decide : 67 < 74) (.int .i64 1)
  have zq0 : Act.eval _ (.tmp 66) = (.agg (List.toArray us8)) := S.get 66 _ rfl
  have zq1 : Act.eval _ (.tmp 67) = (.int .i64 1) := S.get 67 _ rfl
  refine wpl_call ⟨_, Try.func12, by kernel_rfl, by kernel_rfl⟩ (R := fun e V => e = .returned (.int .i64 m) ∧ Below V59.heap.size V59 V) ?_ ?_
  · have hc := hdServer_c us8 x8 V59 1 (mServer.rep0 O8) hby (by decide) (by omega); rw [hcx, hCS] at hc
    simp only [List.map_toArray, List.map_cons, List.map_nil, zq0, zq1]; exact hc
  rintro e V62 ⟨rfl, hb61⟩
  refine ⟨_, rfl, ?_⟩
  have B3 := B3.later hb61
  have B6 := B6.later hb61
  have B8 := B8.later hb61
  have M := M.trans (hb61.mono M.size)
  have MX := MX.trans (hb61.mono (Nat.le_trans hX MX.size))
  replace O8 := mServer.lat O8 hb61
  have z63 := hb61.size
  have S := S.put (by decide : 68 < 74) (.int .i64 m)
  refine wpl_val (ex_assign (S.get 68 _ rfl) _) ?_
  have S := S.put (by decide : 11 < 74) (.int .i64 m)
  refine wpl_nil ?_
  have S := ((((((S.nil).add (S.get 0 _ rfl)).add (S.get 3 _ rfl)).add (S.get 6 _ rfl)).add (S.get 8 _ rfl)).add (S.get 10 _ rfl)).add (S.get 11 _ rfl)
  refine env_gen (C := fun a => Code.wp Try.prog _ _ a _) S ?_
  clear S; intro a S
  refine wp_seq (wp_seq (wp_region_list ?_))
  refine wpl_val (ex_move (S.get 11 _ rfl) _) ?_
  have S := S.put (by decide : 69 < 74) (.int .i64 m)
  refine wpl_val (ex_bin (u := .int .i64 m) (v := .int .i64 0) (S.get 69 _ rfl) rfl _ (run_lss _)) ?_
  rw [decide_eq_false (by omega : ¬ m < 0)]
  have S := S.put (by decide : 70 < 74) (.bool false)
  refine wpl_nil ?_
  refine wp_cond_false (S.get 70 _ rfl) (wp_skip ?_)
  have S := ((((((S.nil).add (S.get 0 _ rfl)).add (S.get 3 _ rfl)).add (S.get 6 _ rfl)).add (S.get 8 _ rfl)).add (S.get 10 _ rfl)).add (S.get 11 _ rfl)
  refine env_gen (C := fun a => Code.wp Try.prog _ _ a _) S ?_
  clear S; intro a S
  refine wp_seq (wp_seq (wp_region_list ?_))
  refine wpl_val (ex_move (S.get 11 _ rfl) _) ?_
  have S := S.put (by decide : 71 < 74) (.int .i64 m)
  refine wpl_val (ex_move (S.get 10 _ rfl) _) ?_
  have S := S.put (by decide : 72 < 74) (.int .i64 m)
  refine wpl_val (ex_bin (u := .int .i64 m) (v := .int .i64 m) (S.get 71 _ rfl) (S.get 72 _ rfl) _ (neq_int _ _ _)) ?_
  have S := S.put (by decide : 73 < 74) (.bool false)
  refine wpl_nil ?_
  refine wp_cond_false (S.get 73 _ rfl) (wp_skip ?_)
  have S := (((((S.nil).add (S.get 0 _ rfl)).add (S.get 3 _ rfl)).add (S.get 6 _ rfl)).add (S.get 8 _ rfl)).add (S.get 10 _ rfl)
  refine env_gen (C := fun a => Code.wp Try.prog _ _ a _) S ?_
  clear S; intro a S
  refine wp_seq (wp_region_list (wpl_val (ex_assign (v := .bool true) rfl _) (wpl_nil (wp_ret ?_))))
  exact (ret_b (P := Try.prog) (fn := Try.f3) (R := fun e w' => e = .returned (.bool true) ∧ Below w.heap.size w w') (S.put (by decide : 4 < 74) (.bool true)) rfl rfl ⟨rfl, M⟩)

end Go.Proofs.Ytlbjmmmadoehbaa
