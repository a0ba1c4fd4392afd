/-
  ClusterNew's loop; the cluster that it makes.
-/
import Derived.Test.YtmfbmnpfgbenmaaZW41
import Derived.Test.YtmfbmnpfgbenmaaZW4
import Derived.Lib.MinMax
import Derived.Test.YtmfbmnpfgbenmaaZW40
namespace Go.Proofs.Ytmfbmnpfgbenmaa
open Go.ChangeShapes Go.WideShapes Go.ChangeAt Go.RowKit Go.Joins Go.Deep

theorem Rw.all {W : World} {D k c : Nat} {a : Option Addr} {X : Nat → SvA} {rs : List RpC} {G : Nat → Nat → Prop} (h : Rw W D a k c X rs G) (hk : k ≤ 1000) : mReplicaS.own W (fun q => D ≤ q ∧ q < W.heap.size) [.slice a k c] ((List.range k).map fun j => rpX (X j)) := by
  rcases own_box h.own with ⟨hv, he⟩ | ⟨g, c2, zs, hv, h1, h2, hb⟩
  · simp only [Value.slice.injEq] at hv
    obtain ⟨rfl, rfl, rfl⟩ := hv
    exact .inl ⟨rfl, none, 0, rfl⟩
  · simp only [Value.slice.injEq] at hv
    obtain ⟨rfl, hn, rfl⟩ := hv
    have hl := h.len
    refine .inr ⟨g, 0, c, [], zs, rs.map (·.1), G, by rw [List.length_map, List.length_range], by rw [List.length_map, List.length_range]; omega, ⟨h1, h2⟩, rfl, by rw [List.length_map, List.length_map, List.length_range, hl], by rw [List.nil_append, ← gflat_rp]; exact hb, ?_, fun j q hq => ⟨⟨(h.lo j q hq).1, (h.lo j q hq).2.1⟩, fun e => (h.lo j q hq).2.2 (by subst e; rfl)⟩, h.dj⟩
    intro j us x hu hx
    rw [List.getElem?_map, Option.map_eq_some_iff] at hu hx
    obtain ⟨r, hr, rfl⟩ := hu
    obtain ⟨m, hm, rfl⟩ := hx
    have hj : j < k := by
      have := (List.getElem?_eq_some_iff.1 hr).1
      omega
    rw [List.getElem?_range hj] at hm
    obtain rfl := Option.some.inj hm
    exact h.el _ r hr

def clT : List Value := [.slice none 0 0, .slice none 0 0, .slice none 0 0, .slice none 0 0, .bool false]
def clX (n : Nat) (ps : List Int) : MwT mCluster := ((((((((), (List.range n).map fun (j : Nat) => rpX (svY ((j : Int) + 1) (knX ps) 0)), (((), ps), [])), []), []), []), []), false)
def clZ : MwT mCluster := ((((((((), []), (((), []), [])), []), []), []), []), false)
theorem cl_of {W : World} {F1 F2 F : Nat → Prop} {r : Value} {g1 g2 : Value} {xs : List (MwT mReplica)} {ps : List Int} (h1 : mReplicaS.own W F1 [r] xs) (h2 : mIntS.own W F2 [g1] ps) (h3 : ∃ a c, g2 = .slice a 0 c) (s1 : ∀ q, F1 q → F q) (s2 : ∀ q, F2 q → F q) (d : ∀ q, F1 q → ¬ F2 q) :
    mCluster.own W F ([r] ++ ([g1, g2] ++ clT)) ((((((((), xs), (((), ps), [])), []), []), []), []), false) := by
  obtain ⟨a, c, rfl⟩ := h3
  have no : ∀ (H : Nat → Prop) (q : Nat), H q → ¬ (fun _ : Nat => False) q := fun _ _ _ h => h
  have sf : ∀ (H : Nat → Prop) (q : Nat), H q → H q := fun _ _ h => h
  have s0 : ∀ (H : Nat → Prop) (q : Nat), False → H q := fun _ _ h => h.elim
  exact ⟨[r, g1, .slice a 0 c, .slice none 0 0, .slice none 0 0, .slice none 0 0, .slice none 0 0], [.bool false], F, fun _ => False, rfl, sf F, s0 F, no F, ⟨[r, g1, .slice a 0 c, .slice none 0 0, .slice none 0 0, .slice none 0 0], [.slice none 0 0], F, fun _ => False, rfl, sf F, s0 F, no F, ⟨[r, g1, .slice a 0 c, .slice none 0 0, .slice none 0 0], [.slice none 0 0], F, fun _ => False, rfl, sf F, s0 F, no F, ⟨[r, g1, .slice a 0 c, .slice none 0 0], [.slice none 0 0], F, fun _ => False, rfl, sf F, s0 F, no F, ⟨[r, g1, .slice a 0 c], [.slice none 0 0], F, fun _ => False, rfl, sf F, s0 F, no F, ⟨[r], [g1, .slice a 0 c], F1, F2, rfl, s1, s2, d, ⟨[], [r], fun _ => False, F1, rfl, s0 F1, sf F1, fun _ h => h.elim, rfl, h1⟩, ⟨[g1], [.slice a 0 c], F2, fun _ => False, rfl, sf F2, s0 F2, no F2, ⟨[], [g1], fun _ => False, F2, rfl, s0 F2, sf F2, fun _ h => h.elim, rfl, h2⟩, .inl ⟨rfl, a, c, rfl⟩⟩⟩, ⟨rfl, none, 0, rfl⟩⟩, ⟨rfl, none, 0, rfl⟩⟩, .inl ⟨rfl, none, 0, rfl⟩⟩, ⟨rfl, none, 0, rfl⟩⟩, rfl⟩

theorem run_leq {P : Program} {ti : TypeId} {x y : Operand} {m n : Int} (w : World) : (do eqGuard .leq ti x y (.int .i64 m) (.int .i64 n); binOp .leq ti (.int .i64 m) (.int .i64 n) : Sem Value).run P w = .ok (.bool (decide (m ≤ n))) w := by
  simp [eqGuard, binOp, Op.intCmp]

section
variable {P : Program} {Q : Exit → Act → World → Prop} {a : Act} {W w : World} {y body : Code} {N sc ci n p4 p6 pC : Nat} {t0 t1 t2 t3 t4 t5 t6 ti tj tk tm : TypeId} {s0 s1 s2 s3 s4 s5 s6 : String} {f0 f1 f2 f3 f4 f5 f6 : Array Edge} {r2 r3 r4 b0 b1 : Nat} {D : Nat → World → Prop}
theorem Cs.fin {i : Nat} {ci : Nat} (S : Cs N sc ci n i p4 p6 pC a) (hc : 0 < ci ∧ ci ≠ 4 ∧ ci ≠ 6 ∧ ci ≠ sc) (hN : 8 < N) : Cs N sc ci n (i + 1) p4 p6 pC (a.put (some ci) (.int .i64 (((i + 1 : Nat) : Int) + 1))) := by
  obtain ⟨c0, c1, c2, c3⟩ := hc
  have k2 := S.k2
  exact ⟨(put_ne (by omega)).trans S.s0, (put_ne (by omega)).trans S.s4, (put_ne (by omega)).trans S.s6, (put_ne (by omega)).trans S.eC, put_eq (by rw [S.sz]; omega), put_df.trans S.df, put_sz.trans S.sz, S.k1, k2⟩
theorem cn_loop {t8 t9 t10 t12 t13 : Nat} (hd : 8 < t8 ∧ t8 < t9 ∧ t9 < t10 ∧ t10 < N ∧ 8 < t12 ∧ t12 < t13 ∧ t13 < N) (hc : 0 < ci ∧ ci ≠ 4 ∧ ci ≠ 6 ∧ ci ≠ sc) (hn : n ≤ 7)
    (S : Cs N sc ci n 0 p4 p6 pC (a.put (some ci) (.int .i64 1))) (hD : D 0 W)
    (hb : ∀ i a W, i < n → Cs N sc ci n i p4 p6 pC a → D i W → ∀ Q' : Exit → Act → World → Prop, (∀ a' W', Cs N sc ci n i p4 p6 pC a' → D (i + 1) W' → Q' .normal a' W') → (∀ c a d v w, Q' (.panic c) (a.put d v) w → Q' (.panic c) a w) → body.wp P Q' a W) (hpn : ∀ c a d v w, Q (.panic c) (a.put d v) w → Q (.panic c) a w)
    (k : ∀ a W, Cs N sc ci n n p4 p6 pC a → D n W → y.wp P Q a W) :
    Code.wp P (((Code.region r2 #[⟨some ci, .assign (.const (.int .i64 1)), t0, s0, f0, none⟩] false).seq (Code.block b0 (Code.loop
      (((Code.region r3 #[⟨some t8, .move (.tmp ci), t1, s1, f1, none⟩, ⟨some t9, .move (.tmp 0), t2, s2, f2, none⟩, ⟨some t10, .binOp .leq ti (.tmp t8) (.tmp t9) tj, t3, s3, f3, none⟩] false).seq (Code.cond (.tmp t10) Code.skip (Code.exit b0))).seq
        ((Code.block b1 body).seq (Code.region r4 #[⟨some t12, .move (.tmp ci), t4, s4, f4, none⟩, ⟨some t13, .binOp .add tk (.tmp t12) (.const (.int .i64 1)) tm, t5, s5, f5, none⟩, ⟨some ci, .assign (.tmp t13), t6, s6, f6, none⟩] false)))))).seq y) Q a W := by
  obtain ⟨k0, k1, k2, k3, k4, k5, k6⟩ := hd
  refine wp_seq (wp_seq (wp_region_list (wpl_assign (wpl_nil (wp_block ?_)))))
  refine wp_loop (fun a W => ∃ i, i ≤ n ∧ Cs N sc ci n i p4 p6 pC a ∧ D i W) (fun a _ => n + 1 - (match a.eval (.tmp ci) with | .int _ z => z.toNat | _ => 0)) ⟨0, Nat.zero_le _, S, hD⟩ ?_
  rintro a W ⟨i, hin, h, hDi⟩
  have hz := h.sz
  refine wp_seq (wp_seq (wp_region_list ?_))
  refine wpl_move ?_
  rw [h.hi]
  have g := h.put k0 (.int .i64 ((i : Int) + 1))
  refine wpl_move ?_
  rw [g.s0]
  have g2 := g.put (by omega : 8 < t9) (.int .i64 n)
  refine wpl_bin (u := .int .i64 ((i : Int) + 1)) (v := .int .i64 n) ((put_ne (by omega)).trans (put_eq (by omega))) (put_eq (by rw [put_sz]; omega)) (run_leq W) (wpl_nil ?_)
  have g4 := g2.put (by omega : 8 < t10) (.bool (decide ((i : Int) + 1 ≤ (n : Int))))
  by_cases hlt : i < n
  · rw [decide_eq_true (by omega : (i : Int) + 1 ≤ (n : Int))] at g4 ⊢
    refine wp_cond_true (put_eq (by rw [put_sz, put_sz]; omega)) (wp_skip ?_)
    refine wp_seq (wp_block ?_)
    refine hb i _ W hlt g4 hDi _ ?_ (fun c a d v w hq => hpn c a d v w hq)
    intro a' W' m hm
    have mz := m.sz
    have mk := m.k2
    refine wp_region_list ?_
    refine wpl_move ?_
    rw [m.hi]
    have m1 := m.put k4 (.int .i64 ((i : Int) + 1))
    refine wpl_bin (u := .int .i64 ((i : Int) + 1)) (v := .int .i64 1) (put_eq (by omega)) rfl (run_inc W' (by omega) (by omega)) ?_
    have m2 := m1.put (by omega : 8 < t13) (.int .i64 ((i : Int) + 1 + 1))
    refine wpl_assign (wpl_nil ?_)
    rw [put_eq (by rw [put_sz]; omega)]
    refine ⟨⟨i + 1, hlt, m2.fin hc (by omega), hm⟩, ?_⟩
    have e1 : (((a'.put (some t12) (.int .i64 ((i : Int) + 1))).put (some t13) (.int .i64 ((i : Int) + 1 + 1))).put (some ci) (.int .i64 ((i : Int) + 1 + 1))).eval (.tmp ci) = .int .i64 ((i : Int) + 1 + 1) := put_eq (by rw [put_sz, put_sz]; omega)
    simp only [e1]
    show n + 1 - ((i : Int) + 1 + 1).toNat < n + 1 - ((i : Int) + 1).toNat
    omega
  · have he : i = n := by omega
    subst he
    rw [decide_eq_false (by omega : ¬ (i : Int) + 1 ≤ (i : Int))] at g4 ⊢
    refine wp_cond_false (put_eq (by rw [put_sz, put_sz]; omega)) (wp_exit ?_)
    simp only [Exit.then, Exit.inBlock, if_true]
    exact k _ W g4 hDi
end

end Go.Proofs.Ytmfbmnpfgbenmaa

/-
  The greatest of a rising row.
-/
namespace Go.Proofs.Ytmfbmnpfgbenmaa
open Go.ChangeShapes Go.WideShapes Go.ChangeAt Go.RowKit Go.Joins Go.Deep

theorem idsB_at : ∀ (ps : List Int) (l : Int) (k : Nat) (q : Int), idsB l ps = true → ps[k]? = some q → (match k with | 0 => l | j + 1 => (ps[j]?).getD 0) < q ∧ q ≤ 7
  | [], _, _, _, _, h => by simp at h
  | x :: t, l, 0, q, hi, h => by
    obtain rfl := Option.some.inj (show some x = some q from h)
    have hi' : ((decide (l < x) && decide (x ≤ 7)) && idsB x t) = true := hi
    simp only [Bool.and_eq_true, decide_eq_true_eq] at hi'
    exact hi'.1
  | x :: t, l, k + 1, q, hi, h => by
    have hi' : ((decide (l < x) && decide (x ≤ 7)) && idsB x t) = true := hi
    simp only [Bool.and_eq_true, decide_eq_true_eq] at hi'
    have := idsB_at t x k q hi'.2 (by simpa using h)
    cases k with
    | zero => exact this
    | succ j => simpa using this
theorem idsB_pr {ps : List Int} {k : Nat} {q : Int} (hi : idsB 0 ps = true) (h : ps[k]? = some q) : prI ps k < q ∧ q ≤ 7 := by
  have := idsB_at ps 0 k q hi h
  cases k with
  | zero => exact this
  | succ j => exact this

set_option maxHeartbeats 2000000 in
theorem max_any (a : Option Addr) (n c : Nat) (ps : List Int) (w : World) (hn : n = ps.length) (hB : RowG KI w a ps) (hl : n ≤ 1048576) (h0 : 0 < n) (hi : idsB 0 ps = true) :
    Calls Try.prog 25 #[.slice a n c] w fun e w' => e = .returned (.int .i64 (prI ps n)) ∧ w' = w := by
  have HB := hidP hB
  have HN := hidP hn
  have HI := hidP hi
  clear hi
  obtain ⟨p, o, q, rfl, hp, hq, c0⟩ := rowI HB.out 0 (by rw [← HN.out]; exact h0)
  have HQ := hidP hq
  clear hB hn hq
  have n0 : ((n : Int) < 1) = False := by simp; omega
  have n1 : decide ((n : Int) < 1) = false := decide_eq_false (by omega)
  have k0 : (0 : Int) < (n : Int) := by omega
  have c1 : w.cell? ⟨p, o, none⟩ = some (.int .i64 q) := by simpa using c0
  go_enter Try.func25, Try.ntmps25
  go_wp2
  go_loop [3, 4] (fun t3 t4 => ∃ (k : Nat), 1 ≤ k ∧ k ≤ n ∧ t4 = .int .i64 k ∧ t3 = .int .i64 (prI ps k)) (fun _ t4 => n - (intOf t4).toNat)
  case atStart => exact ⟨1, Nat.le_refl _, h0, rfl, by rw [prI_next HQ.out]⟩
  case round =>
    obtain ⟨k, hk1, hk, rfl, rfl⟩ := hrel
    by_cases hlt : k < n
    · obtain ⟨p2, o2, q2, e2, hp2, hq2, c2⟩ := rowI HB.out k (by rw [← HN.out]; exact hlt)
      obtain ⟨e3, e4⟩ : p2 = p ∧ o2 = o := by simpa using e2.symm
      subst e3 e4
      clear e2
      have HM : Hid (max (prI ps k) q2 = q2) := hidP (by have := (idsB_pr HI.out hq2).1; omega)
      have HR : Hid (q2 = prI ps (k + 1)) := hidP (prI_next hq2).symm
      clear hq2
      have k1 : (k : Int) < (n : Int) := by omega
      have k2 : (0 : Int) ≤ (k : Int) := by omega
      go_wp2
      go_round
      case rel => exact ⟨k + 1, by omega, by omega, by go_num, by rw [HM.out, HR.out]⟩
      case measure => simp [intOf]; omega
    · have HK : Hid (k = n) := hidP (by omega)
      have k1 : decide ((k : Int) < (n : Int)) = false := decide_eq_false (by omega)
      go_wp2
      go_ret
      exact ⟨by rw [HK.out]; rfl, rfl⟩

end Go.Proofs.Ytmfbmnpfgbenmaa

/-
  Frames by their slots.
-/
namespace Go.Proofs.Ytmfbmnpfgbenmaa
open Go.ChangeShapes Go.WideShapes Go.ChangeAt Go.RowKit Go.Joins Go.Deep

theorem Env.nil {N : Nat} {E : Nat → Option Value} {a : Act} (S : Env N E a) : Env N (fun _ => none) a := ⟨fun _ _ h => (by cases h), S.df, S.sz⟩
theorem Env.add {N t : Nat} {E : Nat → Option Value} {a : Act} {v : Value} (S : Env N E a) (h : a.eval (.tmp t) = v) : Env N (upd E t v) a := by
  refine ⟨fun u x hx => ?_, S.df, S.sz⟩
  unfold upd at hx
  by_cases e : u = t
  · rw [if_pos e] at hx
    subst e
    rw [← Option.some.inj hx]
    exact h
  · rw [if_neg e] at hx
    exact S.get u x hx
theorem env_gen {N : Nat} {E : Nat → Option Value} {a : Act} {C : Act → Prop} (S : Env N E a) (h : ∀ a, Env N E a → C a) : C a := h a S
theorem box_seg {W : World} {p : Nat} {us : List Value} (h : Box W p us) : Seg W p 0 us := Box.seg (us := []) (ts := []) (by rw [List.nil_append, List.append_nil]; exact h) rfl
theorem psum_one {α : Type} {f : α → Nat} (h : ∀ x, f x = 1) : ∀ xs : List α, psum f xs xs.length = xs.length
  | [] => rfl
  | x :: t => by
      have := psum_one h t
      have := h x
      show f x + psum f t t.length = t.length + 1
      omega

end Go.Proofs.Ytmfbmnpfgbenmaa
