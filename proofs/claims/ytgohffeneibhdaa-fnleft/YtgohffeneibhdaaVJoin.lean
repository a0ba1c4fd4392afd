/-
  The program's joinLast: a row of spans that rise, onto which one more is put.
-/
import Derived.Test.YtgohffeneibhdaaKJoin
import Derived.Test.YtgohffeneibhdaaSSymA
import Derived.Test.YtgohffeneibhdaaTkB
import Derived.Deep.DeepCutAuto
namespace Go.Proofs.Ytgohffeneibhdaa
open Go.RowKit

theorem below_grownO {w w' : World} (h : Below w.heap.size w w') (r : Option Nat) : w.grownBy w' r := ⟨h.os, h.tape, h.output, h.size, fun k hk _ => h.block k hk⟩
def lenV : Value → Nat
  | .slice _ n _ => n
  | _ => 0
def Stp9 (p : Prop) : Prop := p
theorem stp9 {p : Prop} (h : Stp9 p) : p := h
theorem Try.fourS9 : Four Try.prog 50 55 := ⟨Try.underlying50, by kernel_rfl⟩
/-- Whether the last one and s are put together. -/
def contB (J : List Sp) (s : Sp) : Bool := match J with
  | [] => false
  | t :: _ => decide (s.n < wd s.s) && eqS t (sibS s)
theorem push_stop {J : List Sp} {s : Sp} (h : contB J s = false) : pushJ J s = s :: J := by
  cases J with
  | nil => rfl
  | cons t J =>
    have h' : (decide (s.n < wd s.s) && eqS t (sibS s)) = false := h
    unfold pushJ
    rw [h']; rfl
theorem push_on {t : Sp} {J : List Sp} {s : Sp} (h : contB (t :: J) s = true) : pushJ (t :: J) s = pushJ J (abvS s) := by
  have h' : (decide (s.n < wd s.s) && eqS t (sibS s)) = true := h
  rw [pushJ, h']; rfl
theorem cont_yes {t : Sp} {J : List Sp} {s : Sp} (h : contB (t :: J) s = true) : s.n < wd s.s ∧ t = sibS s := by
  unfold contB at h
  simp only [Bool.and_eq_true, decide_eq_true_eq, eqS_iff] at h
  exact h
theorem obl (a : Option Addr) (n c n' c' : Nat) : (Value.slice a n c).ownBlock = (Value.slice a n' c').ownBlock := by cases a <;> rfl
theorem flat_take : ∀ (ps : List Pf) (L : Nat), flat (ps.take L) = (flat ps).take (L * 4)
  | [], L => by simp [flat]
  | p :: t, 0 => by simp [flat]
  | p :: t, L + 1 => by
      show p.cs ++ flat (t.take L) = (p.cs ++ flat t).take ((L + 1) * 4)
      have e : (L + 1) * 4 = p.cs.length + L * 4 := by show _ = 4 + _; omega
      rw [flat_take t L, e, List.take_length_add_append]
theorem OwnR.take {t : TypeId} {w : World} {B n c : Nat} {a : Option Addr} {ps : List Pf} (h : OwnR t w B (.slice a n c) ps) {L : Nat} (hL : L ≤ n) : OwnR t w B (.slice a L c) (ps.take L) := by
  have hn := h.caps.1
  have hlen : (ps.take L).length = L := by rw [List.length_take]; omega
  unfold OwnR at h ⊢
  rw [hlen, flat_take]
  refine ⟨by rw [List.length_take, flat_len]; omega, ?_⟩
  rcases h.2 with ⟨hv, h0⟩ | ⟨g, c', cur, hv, h1, h2, h3, h4, h5, h6⟩
  · simp at hv
    have : L = 0 := by omega
    subst this
    exact Or.inl ⟨by rw [hv.1, hv.2.2], rfl⟩
  · simp at hv
    refine Or.inr ⟨g, c', cur, by rw [hv.1, hv.2.2], h1, h2, by omega, h4, h5, ?_⟩
    rw [← h6, List.take_take]
    congr 1
    omega
theorem OwnR.setC {t : TypeId} {w : World} {B x o : Nat} {v : Value} {ps : List Pf} (h : OwnR t w B v ps) (hx : ∀ k, v.ownBlock = some k → k ≠ x) (u : Value) : OwnR t (w.setCell ⟨x, o, none⟩ u) B v ps := by
  refine ⟨h.1, ?_⟩
  rcases h.2 with h1 | ⟨g, cap, cur, hv, hg, hr, hr'⟩
  · exact Or.inl h1
  · refine Or.inr ⟨g, cap, cur, hv, hg, ?_, hr'⟩
    exact (Below.heap_setCell w ⟨x, o, none⟩ u g (hx g (by rw [hv]; rfl))).trans hr
theorem sib_any (x : Sp) (hn : x.n + 1 ≤ 128) (w : World) :
    Calls Try.prog 62 #[.agg #[.bool x.s, .int .i64 x.H.toInt, .int .i64 x.L.toInt, .int .i64 x.n]] w fun e w' => e = .returned (.agg #[.bool (sibS x).s, .int .i64 (sibS x).H.toInt, .int .i64 (sibS x).L.toInt, .int .i64 (sibS x).n]) ∧ Below w.heap.size w w' := by
  unfold sibS
  cases hl : lowB x.H x.L x.n
  · exact sibling_up x.s x.H x.L x.n hn hl w
  · exact sibling_lo x.s x.H x.L x.n hn hl w
theorem eqS_run (x y : Sp) (w : World) : (Op.equalIn 10000 55 (.agg #[.bool x.s, .int .i64 x.H.toInt, .int .i64 x.L.toInt, .int .i64 x.n]) (.agg #[.bool y.s, .int .i64 y.H.toInt, .int .i64 y.L.toInt, .int .i64 y.n])).run Try.prog w = .ok (eqS x y) w := by
  rw [eqSp, beqI, beqI, show (((x.n : Int) == (y.n : Int))) = (x.n == y.n) by rw [Bool.eq_iff_iff, beq_iff_eq, beq_iff_eq]; omega]
  rfl
/-- While spans are joined: the box (block w.heap.size) holds s, the row J. -/
structure JI (w X : World) (B : Nat) (a : Option Addr) (k c : Nat) (J : List Sp) (s : Sp) : Prop where
  low : Below w.heap.size w X
  lt : w.heap.size < X.heap.size
  b : X.cell? ⟨w.heap.size, 0, none⟩ = some (.bool s.s) ∧ X.cell? ⟨w.heap.size, 1, none⟩ = some (.int .i64 s.H.toInt) ∧ X.cell? ⟨w.heap.size, 2, none⟩ = some (.int .i64 s.L.toInt) ∧ X.cell? ⟨w.heap.size, 3, none⟩ = some (.int .i64 s.n)
  bF : ∀ o, X.frozen? ⟨w.heap.size, o, none⟩ = false
  own : OwnR 55 X B (.slice a k c) (J.reverse.map Sp.spn)
  ob : ∀ q, (Value.slice a k c).ownBlock = some q → q < w.heap.size
theorem JI.below {w X Y : World} {B : Nat} {a : Option Addr} {k c : Nat} {J : List Sp} {s : Sp} (h : JI w X B a k c J s) (hb : Below X.heap.size X Y) : JI w Y B a k c J s := by
  obtain ⟨b0, b1, b2, b3⟩ := h.b
  exact ⟨h.low.trans (hb.mono h.low.size), Nat.lt_of_lt_of_le h.lt hb.size, ⟨(hb.cell h.lt).trans b0, (hb.cell h.lt).trans b1, (hb.cell h.lt).trans b2, (hb.cell h.lt).trans b3⟩, fun o => (hb.frozen h.lt).trans (h.bF o), h.own.later hb, h.ob⟩
theorem JI.last {w X : World} {B : Nat} {a : Option Addr} {k c : Nat} {t : Sp} {J : List Sp} {s : Sp} (h : JI w X B a k c (t :: J) s) : ∃ g, a = some ⟨g, 0, none⟩ ∧ g < w.heap.size ∧ g < X.heap.size ∧ k = J.length + 1 ∧
    X.cell? ⟨g, J.length * 4, none⟩ = some (.bool t.s) ∧ X.cell? ⟨g, J.length * 4 + 1, none⟩ = some (.int .i64 t.H.toInt) ∧ X.cell? ⟨g, J.length * 4 + 2, none⟩ = some (.int .i64 t.L.toInt) ∧ X.cell? ⟨g, J.length * 4 + 3, none⟩ = some (.int .i64 t.n) := by
  have hk : k = J.length + 1 := by rw [h.own.caps.1]; simp
  rcases h.own.2 with ⟨hv, _⟩ | ⟨g, c', cur, hv, _⟩
  · simp at hv; omega
  · simp at hv
    obtain ⟨rfl, _⟩ := hv
    have hq := h.ob g rfl
    have e : ((t :: J).reverse.map Sp.spn)[J.length]? = some t.spn := by
      rw [List.reverse_cons, List.map_append, List.getElem?_append_right (by simp)]
      simp
    obtain ⟨a0, a1, a2, a3⟩ := h.own.atk J.length t.spn e
    exact ⟨g, rfl, hq, Nat.lt_trans hq h.lt, hk, a0, a1, a2, a3⟩
theorem JI.drop {w X : World} {B : Nat} {a : Option Addr} {k c : Nat} {t : Sp} {J : List Sp} {s : Sp} (h : JI w X B a k c (t :: J) s) : JI w X B a J.length c J s := by
  have hk : k = J.length + 1 := by rw [h.own.caps.1]; simp
  refine ⟨h.low, h.lt, h.b, h.bF, ?_, fun q hq => h.ob q ((obl a k c J.length c).trans hq)⟩
  have := h.own.take (L := J.length) (by omega)
  rw [List.reverse_cons, List.map_append, List.take_left' (by simp)] at this
  exact this
theorem JI.put {w X : World} {B : Nat} {a : Option Addr} {k c : Nat} {J : List Sp} {s : Sp} (h : JI w X B a k c J s) (x : Sp) : JI w ((((X.setCell ⟨w.heap.size, 0, none⟩ (.bool x.s)).setCell ⟨w.heap.size, 1, none⟩ (.int .i64 x.H.toInt)).setCell ⟨w.heap.size, 2, none⟩ (.int .i64 x.L.toInt)).setCell ⟨w.heap.size, 3, none⟩ (.int .i64 x.n)) B a k c J x := by
  obtain ⟨b0, b1, b2, b3⟩ := h.b
  have hne : ∀ q, (Value.slice a k c).ownBlock = some q → q ≠ w.heap.size := fun q hq => Nat.ne_of_lt (h.ob q hq)
  exact ⟨(((h.low.setCell (Nat.le_refl _) _).setCell (Nat.le_refl _) _).setCell (Nat.le_refl _) _).setCell (Nat.le_refl _) _, by simpa using h.lt, ⟨by simp [go_sem, b0], by simp [go_sem, b1], by simp [go_sem, b2], by simp [go_sem, b3]⟩, fun o => by simpa [go_sem] using h.bF o, (((h.own.setC hne _).setC hne _).setC hne _).setC hne _, h.ob⟩

set_option maxRecDepth 10000 in
set_option maxHeartbeats 8000000 in
theorem jl_in (J : List Sp) (s : Sp) (hJ : ∀ t ∈ J, t.ok) (a : Option Addr) (n c B : Nat) (hl : J.length ≤ 1000) (w : World) (h : OwnR 55 w B (.slice a n c) (J.reverse.map Sp.spn)) (t : Sp) (J2 : List Sp) (hJ2 : J = t :: J2) (hw : wB s t = true) :
    Calls Try.prog 31 #[.slice a n c, .agg #[.bool s.s, .int .i64 s.H.toInt, .int .i64 s.L.toInt, .int .i64 s.n]] w fun e w' => (∃ a' n' c', e = .returned (.slice a' n' c') ∧ n' = (t :: J2).length ∧ OwnR 55 w' B (.slice a' n' c') ((t :: J2).reverse.map Sp.spn) ∧ (∀ q, (Value.slice a' n' c').ownBlock = some q → q < w'.heap.size ∧ (w.heap.size ≤ q ∨ (Value.slice a n c).ownBlock = some q))) ∧ w.grownBy w' (Value.slice a n c).ownBlock := by
  subst hJ2
  have hn : n = (t :: J2).length := by rw [h.caps.1]; simp
  have H1 := hidP (show JI w (w.alloc (.cells #[.bool s.s, .int .i64 s.H.toInt, .int .i64 s.L.toInt, .int .i64 s.n] 55)) B a n c (t :: J2) s from ⟨(Below.refl _ w).alloc (Nat.le_refl _) _, by simp, ⟨by simp [go_sem], by simp [go_sem], by simp [go_sem], by simp [go_sem]⟩, fun o => by simp [go_sem], h.alloc _, fun q hq => (h.lt q hq).2⟩)
  have HOb := hidP (fun q (hq : (Value.slice a n c).ownBlock = some q) => (h.lt q hq).2)
  have HNn := hidP hn
  have HWi := hidP (fun W => within_any s.s s.H s.L s.n t.s t.H t.L t.n (hJ t (List.mem_cons_self ..)).le W)
  have hw' : withB s.s s.H s.L s.n t.s t.H t.L t.n = true := hw
  rw [hw'] at HWi
  have HO := hidP h
  clear h hw hw' hn hJ
  go_enter Try.func31, Try.ntmps31
  go_upto_region 1 with fail
  generalize w.alloc (.cells #[.bool s.s, .int .i64 s.H.toInt, .int .i64 s.L.toInt, .int .i64 s.n] 55) = W1 at *
  obtain ⟨b0, b1, b2, b3⟩ := H1.out.b
  have bl := H1.out.lt
  obtain ⟨g, rfl, gw, gl, hk, r0, r1, r2, r3⟩ := H1.out.last
  obtain ⟨m, hm⟩ : ∃ m, m = J2.length := ⟨_, rfl⟩
  rw [← hm] at r0 r1 r2 r3 hk
  subst hk
  have hm9 : m ≤ 1000 := by have h1 := hl; simp at h1; omega
  have e0 : IntKind.i64.wrap (m : Int) = (m : Int) := by rw [IntKind.wrap_i64]; omega
  have e8 : 0 ≤ (m : Int) := by omega
  have e1 : IntKind.i64.wrap ((((m + 1 : Nat) : Int)) - 1) = (m : Int) := by rw [IntKind.wrap_i64]; omega
  have e2 : IntKind.i64.wrap ((m : Int) + 1 - 1) = (m : Int) := by rw [IntKind.wrap_i64]; omega
  have e3 : 0 < m + 1 := by omega
  have e4 : decide ((0 : Int) < (((m + 1 : Nat) : Int))) = true := decide_eq_true (by omega)
  have e5 : decide ((0 : Int) < (m : Int) + 1) = true := decide_eq_true (by omega)
  have e6 : m < m + 1 := by omega
  have e7 : (m : Int) < (m : Int) + 1 := by omega
  have HM := hidP hm
  clear hm
  have HSx : Hid (∀ x, Below W1.heap.size W1 x → (x.cell? ⟨w.heap.size, 0, none⟩ = some (.bool s.s) ∧ x.cell? ⟨w.heap.size, 1, none⟩ = some (.int .i64 s.H.toInt) ∧ x.cell? ⟨w.heap.size, 2, none⟩ = some (.int .i64 s.L.toInt) ∧ x.cell? ⟨w.heap.size, 3, none⟩ = some (.int .i64 s.n) ∧ x.cell? ⟨g, m * 4, none⟩ = some (.bool t.s) ∧ x.cell? ⟨g, m * 4 + 1, none⟩ = some (.int .i64 t.H.toInt) ∧ x.cell? ⟨g, m * 4 + 2, none⟩ = some (.int .i64 t.L.toInt) ∧ x.cell? ⟨g, m * 4 + 3, none⟩ = some (.int .i64 t.n) ∧ Below W1.heap.size W1 x)) := hidP fun x h =>
    ⟨(h.cell bl).trans b0, (h.cell bl).trans b1, (h.cell bl).trans b2, (h.cell bl).trans b3, (h.cell gl).trans r0, (h.cell gl).trans r1, (h.cell gl).trans r2, (h.cell gl).trans r3, h⟩
  refine wp_region_held_drew (S := (fun x => x.cell? ⟨w.heap.size, 0, none⟩ = some (.bool s.s) ∧ x.cell? ⟨w.heap.size, 1, none⟩ = some (.int .i64 s.H.toInt) ∧ x.cell? ⟨w.heap.size, 2, none⟩ = some (.int .i64 s.L.toInt) ∧ x.cell? ⟨w.heap.size, 3, none⟩ = some (.int .i64 s.n) ∧ x.cell? ⟨g, m * 4, none⟩ = some (.bool t.s) ∧ x.cell? ⟨g, m * 4 + 1, none⟩ = some (.int .i64 t.H.toInt) ∧ x.cell? ⟨g, m * 4 + 2, none⟩ = some (.int .i64 t.L.toInt) ∧ x.cell? ⟨g, m * 4 + 3, none⟩ = some (.int .i64 t.n) ∧ Below W1.heap.size W1 x)) (by kernel_rfl) ?_ (fun hHeld => ?_)
  · try dsimp only
    exact HSx.out _ ((Below.refl _ _).drew)
  refine tk 0 5 rfl ?_
  simp only [pa]
  refine tk 1 6 rfl ?_
  simp only [pa]
  refine tk 2 7 rfl ?_
  simp only [pa]
  refine tk 3 8 rfl ?_
  simp only [pa]
  refine tk 4 9 rfl ?_
  simp only [pa]
  refine tk 5 10 rfl ?_
  simp only [pa]
  refine tk 6 11 rfl ?_
  simp only [pa]
  refine tk 7 12 rfl ?_
  simp only [pa]
  refine tk 8 13 rfl ?_
  simp only [pa]
  refine tk 9 14 rfl ?_
  simp only [pa]
  refine tk 10 15 rfl ?_
  simp only [pa]
  refine wpAnyH_ready (rs := [11]) (by kernel_rfl) (by simp) ?_
  refine AllReadyH.cons rfl (fun K hK => ?_) AllReadyH.nil
  go_simp
  go_wp2_with (first | (go_at_call 42; refine (HWi.out _).mono ?_; rintro e w2 ⟨rfl, hb2⟩; have b2 := (hHeld.2.2.2.2.2.2.2.2).trans (hb2.mono (hHeld.2.2.2.2.2.2.2.2).size)))
  refine hK.out _ _ ?_ (fun hHeld => ?_)
  · try dsimp only
    exact HSx.out _ b2
  clear hK K
  refine tk 12 17 rfl ?_
  simp only [pa]
  have HE := hidP (hHeld.2.2.2.2.2.2.2.2)
  refine wpAnyH_done (by kernel_rfl) ?_ _
  clear hHeld
  have hbE := HE.out
  clear HE
  have A2 := hidP (H1.out.low.trans (hbE.mono H1.out.low.size))
  have O2 := hidP (H1.out.own.later hbE)
  have hsz := hbE.size
  clear hbE b0 b1 b2 b3 r0 r1 r2 r3
  go_wp2_with fail
  go_ret
  refine ⟨⟨_, _, _, rfl, by have := HM.out; simp; omega, O2.out, fun q hq => ?_⟩, below_grownO A2.out _⟩
  have hq2 := HOb.out q hq
  exact ⟨by omega, Or.inr hq⟩

set_option maxRecDepth 10000 in
set_option maxHeartbeats 8000000 in
theorem jl_push (J : List Sp) (s : Sp) (hJ : ∀ t ∈ J, t.ok) (hs : s.ok) (a : Option Addr) (n c B : Nat) (hl : J.length ≤ 1000) (w : World) (hB : B ≤ w.heap.size) (h : OwnR 55 w B (.slice a n c) (J.reverse.map Sp.spn)) (hw : ∀ t J2, J = t :: J2 → wB s t = false) :
    Calls Try.prog 31 #[.slice a n c, .agg #[.bool s.s, .int .i64 s.H.toInt, .int .i64 s.L.toInt, .int .i64 s.n]] w fun e w' => (∃ a' n' c', e = .returned (.slice a' n' c') ∧ n' = (pushJ J s).length ∧ OwnR 55 w' B (.slice a' n' c') ((pushJ J s).reverse.map Sp.spn) ∧ (∀ q, (Value.slice a' n' c').ownBlock = some q → q < w'.heap.size ∧ (w.heap.size ≤ q ∨ (Value.slice a n c).ownBlock = some q))) ∧ w.grownBy w' (Value.slice a n c).ownBlock := by
  have hn : n = J.length := by rw [h.caps.1]; simp
  have H1 := hidP (show JI w (w.alloc (.cells #[.bool s.s, .int .i64 s.H.toInt, .int .i64 s.L.toInt, .int .i64 s.n] 55)) B a n c J s from ⟨(Below.refl _ w).alloc (Nat.le_refl _) _, by simp, ⟨by simp [go_sem], by simp [go_sem], by simp [go_sem], by simp [go_sem]⟩, fun o => by simp [go_sem], h.alloc _, fun q hq => (h.lt q hq).2⟩)
  have HOb := hidP (fun q (hq : (Value.slice a n c).ownBlock = some q) => (h.lt q hq).2)
  have HNn := hidP hn
  have HJk := hidP hJ
  have HSk := hidP hs
  have HO := hidP h
  have HW := hidP hw
  clear h hw hn hJ hs
  go_enter Try.func31, Try.ntmps31
  go_upto_region 1 with fail
  generalize w.alloc (.cells #[.bool s.s, .int .i64 s.H.toInt, .int .i64 s.L.toInt, .int .i64 s.n] 55) = W1 at *
  go_cut [17] (fun s17 wx => s17 = .bool false ∧ JI w wx B a n c J s)
  case first => as_aux_lemma =>
    cases J with
    | nil =>
      have hn0 : n = 0 := HNn.out
      subst hn0
      obtain ⟨b0, b1, b2, b3⟩ := H1.out.b
      have bl := H1.out.lt
      have HSx : Hid (∀ x, Below W1.heap.size W1 x → (x.cell? ⟨w.heap.size, 0, none⟩ = some (.bool s.s) ∧ x.cell? ⟨w.heap.size, 1, none⟩ = some (.int .i64 s.H.toInt) ∧ x.cell? ⟨w.heap.size, 2, none⟩ = some (.int .i64 s.L.toInt) ∧ x.cell? ⟨w.heap.size, 3, none⟩ = some (.int .i64 s.n) ∧ Below W1.heap.size W1 x)) := hidP fun x h =>
        ⟨(h.cell bl).trans b0, (h.cell bl).trans b1, (h.cell bl).trans b2, (h.cell bl).trans b3, h⟩
      refine wp_region_held_drew (S := (fun x => x.cell? ⟨w.heap.size, 0, none⟩ = some (.bool s.s) ∧ x.cell? ⟨w.heap.size, 1, none⟩ = some (.int .i64 s.H.toInt) ∧ x.cell? ⟨w.heap.size, 2, none⟩ = some (.int .i64 s.L.toInt) ∧ x.cell? ⟨w.heap.size, 3, none⟩ = some (.int .i64 s.n) ∧ Below W1.heap.size W1 x)) (by kernel_rfl) ?_ (fun hHeld => ?_)
      · try dsimp only
        exact HSx.out _ ((Below.refl _ _).drew)
      refine tk 0 5 rfl ?_
      simp only [pa]
      refine tk 1 6 rfl ?_
      simp only [pa]
      refine tk 2 7 rfl ?_
      simp only [pa]
      refine tk 3 8 rfl ?_
      simp only [pa]
      refine sk 4 9 rfl ?_
      simp only [pa]
      refine sk 5 10 rfl ?_
      simp only [pa]
      refine sk 6 11 rfl ?_
      simp only [pa]
      refine sk 7 12 rfl ?_
      simp only [pa]
      refine sk 8 13 rfl ?_
      simp only [pa]
      refine sk 9 14 rfl ?_
      simp only [pa]
      refine sk 10 15 rfl ?_
      simp only [pa]
      refine sk 11 16 rfl ?_
      simp only [pa]
      refine tk 12 17 rfl ?_
      simp only [pa]
      have HE := hidP (hHeld.2.2.2.2)
      refine wpAnyH_done (by kernel_rfl) ?_ _
      clear hHeld
      have H2 := hidP (H1.out.below HE.out)
      clear HE b0 b1 b2 b3
      go_wp2_with fail
      go_meet
      case rel => exact ⟨rfl, H2.out⟩
    | cons t J2 =>
      have HWi := hidP (fun W => within_any s.s s.H s.L s.n t.s t.H t.L t.n (HJk.out t (List.mem_cons_self ..)).le W)
      have hw' : withB s.s s.H s.L s.n t.s t.H t.L t.n = false := HW.out t J2 rfl
      rw [hw'] at HWi
      clear hw'
      obtain ⟨b0, b1, b2, b3⟩ := H1.out.b
      have bl := H1.out.lt
      obtain ⟨g, rfl, gw, gl, hk, r0, r1, r2, r3⟩ := H1.out.last
      obtain ⟨m, hm⟩ : ∃ m, m = J2.length := ⟨_, rfl⟩
      rw [← hm] at r0 r1 r2 r3 hk
      subst hk
      have hm9 : m ≤ 1000 := by have h1 := hl; simp at h1; omega
      have e0 : IntKind.i64.wrap (m : Int) = (m : Int) := by rw [IntKind.wrap_i64]; omega
      have e8 : 0 ≤ (m : Int) := by omega
      have e1 : IntKind.i64.wrap ((((m + 1 : Nat) : Int)) - 1) = (m : Int) := by rw [IntKind.wrap_i64]; omega
      have e2 : IntKind.i64.wrap ((m : Int) + 1 - 1) = (m : Int) := by rw [IntKind.wrap_i64]; omega
      have e3 : 0 < m + 1 := by omega
      have e4 : decide ((0 : Int) < (((m + 1 : Nat) : Int))) = true := decide_eq_true (by omega)
      have e5 : decide ((0 : Int) < (m : Int) + 1) = true := decide_eq_true (by omega)
      have e6 : m < m + 1 := by omega
      have e7 : (m : Int) < (m : Int) + 1 := by omega
      clear hm
      have HSx : Hid (∀ x, Below W1.heap.size W1 x → (x.cell? ⟨w.heap.size, 0, none⟩ = some (.bool s.s) ∧ x.cell? ⟨w.heap.size, 1, none⟩ = some (.int .i64 s.H.toInt) ∧ x.cell? ⟨w.heap.size, 2, none⟩ = some (.int .i64 s.L.toInt) ∧ x.cell? ⟨w.heap.size, 3, none⟩ = some (.int .i64 s.n) ∧ x.cell? ⟨g, m * 4, none⟩ = some (.bool t.s) ∧ x.cell? ⟨g, m * 4 + 1, none⟩ = some (.int .i64 t.H.toInt) ∧ x.cell? ⟨g, m * 4 + 2, none⟩ = some (.int .i64 t.L.toInt) ∧ x.cell? ⟨g, m * 4 + 3, none⟩ = some (.int .i64 t.n) ∧ Below W1.heap.size W1 x)) := hidP fun x h =>
        ⟨(h.cell bl).trans b0, (h.cell bl).trans b1, (h.cell bl).trans b2, (h.cell bl).trans b3, (h.cell gl).trans r0, (h.cell gl).trans r1, (h.cell gl).trans r2, (h.cell gl).trans r3, h⟩
      refine wp_region_held_drew (S := (fun x => x.cell? ⟨w.heap.size, 0, none⟩ = some (.bool s.s) ∧ x.cell? ⟨w.heap.size, 1, none⟩ = some (.int .i64 s.H.toInt) ∧ x.cell? ⟨w.heap.size, 2, none⟩ = some (.int .i64 s.L.toInt) ∧ x.cell? ⟨w.heap.size, 3, none⟩ = some (.int .i64 s.n) ∧ x.cell? ⟨g, m * 4, none⟩ = some (.bool t.s) ∧ x.cell? ⟨g, m * 4 + 1, none⟩ = some (.int .i64 t.H.toInt) ∧ x.cell? ⟨g, m * 4 + 2, none⟩ = some (.int .i64 t.L.toInt) ∧ x.cell? ⟨g, m * 4 + 3, none⟩ = some (.int .i64 t.n) ∧ Below W1.heap.size W1 x)) (by kernel_rfl) ?_ (fun hHeld => ?_)
      · try dsimp only
        exact HSx.out _ ((Below.refl _ _).drew)
      refine tk 0 5 rfl ?_
      simp only [pa]
      refine tk 1 6 rfl ?_
      simp only [pa]
      refine tk 2 7 rfl ?_
      simp only [pa]
      refine tk 3 8 rfl ?_
      simp only [pa]
      refine tk 4 9 rfl ?_
      simp only [pa]
      refine tk 5 10 rfl ?_
      simp only [pa]
      refine tk 6 11 rfl ?_
      simp only [pa]
      refine tk 7 12 rfl ?_
      simp only [pa]
      refine tk 8 13 rfl ?_
      simp only [pa]
      refine tk 9 14 rfl ?_
      simp only [pa]
      refine tk 10 15 rfl ?_
      simp only [pa]
      refine wpAnyH_ready (rs := [11]) (by kernel_rfl) (by simp) ?_
      refine AllReadyH.cons rfl (fun K hK => ?_) AllReadyH.nil
      go_simp
      go_wp2_with (first | (go_at_call 42; refine (HWi.out _).mono ?_; rintro e w2 ⟨rfl, hb2⟩; have b2 := (hHeld.2.2.2.2.2.2.2.2).trans (hb2.mono (hHeld.2.2.2.2.2.2.2.2).size)))
      refine hK.out _ _ ?_ (fun hHeld => ?_)
      · try dsimp only
        exact HSx.out _ b2
      clear hK K
      refine tk 12 17 rfl ?_
      simp only [pa]
      have HE := hidP (hHeld.2.2.2.2.2.2.2.2)
      refine wpAnyH_done (by kernel_rfl) ?_ _
      clear hHeld
      have H2 := hidP (H1.out.below HE.out)
      clear HE b0 b1 b2 b3 r0 r1 r2 r3
      go_wp2_with fail
      go_meet
      case rel => exact ⟨rfl, H2.out⟩
  obtain ⟨rfl, hJI⟩ := hcut
  obtain ⟨W2, hW2⟩ : ∃ x, x = wc := ⟨_, rfl⟩
  rw [← hW2] at hJI ⊢
  clear hW2 H1 HO HW
  have H2 := hidP hJI
  clear hJI
  go_wp2_with fail
  go_loopw [0] (fun t0 wr => ∃ (J' : List Sp) (s' : Sp) (k : Nat), t0 = .slice a k c ∧ k = J'.length ∧ (∀ t ∈ J', t.ok) ∧ s'.ok ∧ J'.length ≤ 1000 ∧ pushJ J' s' = pushJ J s ∧ JI w wr B a k c J' s') (fun t0 _ => lenV t0)
  case atStart => exact ⟨J, s, n, rfl, HNn.out, HJk.out, HSk.out, hl, rfl, H2.out⟩
  case round =>
    obtain ⟨J', s', k, rfl, hk, hj, hs', hl', hp, hji⟩ := hrel
    have H3 := hidP hji
    have HJ3 := hidP hj
    have HS3 := hidP hs'
    have HP3 := hidP hp
    have HK3 := hidP hk
    have HL3 := hidP hl'
    clear hji hj hs' hp hk hl' H2 HJk HSk HNn
    go_upto_region 3 with fail
    go_cut [40] (fun s40 wx => s40 = .bool (contB J' s') ∧ JI w wx B a k c J' s')
    case first => as_aux_lemma =>
      obtain ⟨W3, hW3⟩ : ∃ x, x = wr := ⟨_, rfl⟩
      rw [← hW3] at H3 ⊢
      clear hW3
      cases J' with
      | nil =>
        have hn0 : k = 0 := HK3.out
        subst hn0
        obtain ⟨b0, b1, b2, b3⟩ := H3.out.b
        have bl := H3.out.lt
        have HSx : Hid (∀ x, Below W3.heap.size W3 x → (x.cell? ⟨w.heap.size, 0, none⟩ = some (.bool s'.s) ∧ x.cell? ⟨w.heap.size, 1, none⟩ = some (.int .i64 s'.H.toInt) ∧ x.cell? ⟨w.heap.size, 2, none⟩ = some (.int .i64 s'.L.toInt) ∧ x.cell? ⟨w.heap.size, 3, none⟩ = some (.int .i64 s'.n) ∧ Below W3.heap.size W3 x)) := hidP fun x h =>
          ⟨(h.cell bl).trans b0, (h.cell bl).trans b1, (h.cell bl).trans b2, (h.cell bl).trans b3, h⟩
        refine wp_region_held_drew (S := (fun x => x.cell? ⟨w.heap.size, 0, none⟩ = some (.bool s'.s) ∧ x.cell? ⟨w.heap.size, 1, none⟩ = some (.int .i64 s'.H.toInt) ∧ x.cell? ⟨w.heap.size, 2, none⟩ = some (.int .i64 s'.L.toInt) ∧ x.cell? ⟨w.heap.size, 3, none⟩ = some (.int .i64 s'.n) ∧ Below W3.heap.size W3 x)) (by kernel_rfl) ?_ (fun hHeld => ?_)
        · try dsimp only
          exact HSx.out _ ((Below.refl _ _).drew)
        refine tk 0 19 rfl ?_
        simp only [pa]
        refine tk 1 20 rfl ?_
        simp only [pa]
        refine tk 2 21 rfl ?_
        simp only [pa]
        refine tk 3 22 rfl ?_
        simp only [pa]
        refine sk 4 23 rfl ?_
        simp only [pa]
        refine sk 5 24 rfl ?_
        simp only [pa]
        refine sk 6 25 rfl ?_
        simp only [pa]
        refine sk 7 26 rfl ?_
        simp only [pa]
        refine sk 8 27 rfl ?_
        simp only [pa]
        refine sk 9 28 rfl ?_
        simp only [pa]
        refine tk 10 29 rfl ?_
        simp only [pa]
        refine tk 11 30 rfl ?_
        simp only [pa]
        refine sk 12 31 rfl ?_
        simp only [pa]
        refine sk 13 32 rfl ?_
        simp only [pa]
        refine sk 14 33 rfl ?_
        simp only [pa]
        refine sk 15 34 rfl ?_
        simp only [pa]
        refine sk 16 35 rfl ?_
        simp only [pa]
        refine sk 17 36 rfl ?_
        simp only [pa]
        refine sk 18 37 rfl ?_
        simp only [pa]
        refine sk 19 38 rfl ?_
        simp only [pa]
        refine sk 20 39 rfl ?_
        simp only [pa]
        refine tk 21 40 rfl ?_
        simp only [pa]
        have HE := hidP (hHeld.2.2.2.2)
        refine wpAnyH_done (by kernel_rfl) ?_ _
        clear hHeld
        have H4 := hidP (H3.out.below HE.out)
        clear HE b0 b1 b2 b3
        go_wp2_with fail
        go_meet
        case rel => exact ⟨rfl, H4.out⟩
      | cons t J2 =>
        obtain ⟨b0, b1, b2, b3⟩ := H3.out.b
        have bl := H3.out.lt
        obtain ⟨g, rfl, gw, gl, hk, r0, r1, r2, r3⟩ := H3.out.last
        obtain ⟨m, hm⟩ : ∃ m, m = J2.length := ⟨_, rfl⟩
        rw [← hm] at r0 r1 r2 r3 hk
        subst hk
        have hm9 : m ≤ 1000 := by have h1 := HL3.out; simp at h1; omega
        have e0 : IntKind.i64.wrap (m : Int) = (m : Int) := by rw [IntKind.wrap_i64]; omega
        have e8 : 0 ≤ (m : Int) := by omega
        have e2 : IntKind.i64.wrap ((m : Int) + 1 - 1) = (m : Int) := by rw [IntKind.wrap_i64]; omega
        have e3 : 0 < m + 1 := by omega
        have e5 : decide ((0 : Int) < (m : Int) + 1) = true := decide_eq_true (by omega)
        have e6 : m < m + 1 := by omega
        have e7 : (m : Int) < (m : Int) + 1 := by omega
        clear hm
        have hwd := HS3.out.2.1
        have hw8 := HS3.out.le
        have HWd := hidP (fun W => width_any s'.s s'.H.toInt s'.L.toInt W)
        by_cases hlt : s'.n < wd s'.s
        · have HSi := hidP (fun W => sib_any s' (by have := wd_le' s'.s; omega) W)
          have hEq := eqS_run t (sibS s')
          have hcB : contB (t :: J2) s' = eqS t (sibS s') := by unfold contB; simp only; rw [decide_eq_true hlt, Bool.true_and]
          generalize eqS t (sibS s') = r at *
          have HcB := hidP hcB
          clear hcB
          have d1 : decide ((s'.n : Int) < (wd s'.s : Int)) = true := decide_eq_true (by omega)
          have d2 : decide (s'.n < wd s'.s) = true := decide_eq_true hlt
          have HSx : Hid (∀ x, Below W3.heap.size W3 x → (x.cell? ⟨w.heap.size, 0, none⟩ = some (.bool s'.s) ∧ x.cell? ⟨w.heap.size, 1, none⟩ = some (.int .i64 s'.H.toInt) ∧ x.cell? ⟨w.heap.size, 2, none⟩ = some (.int .i64 s'.L.toInt) ∧ x.cell? ⟨w.heap.size, 3, none⟩ = some (.int .i64 s'.n) ∧ x.cell? ⟨g, m * 4, none⟩ = some (.bool t.s) ∧ x.cell? ⟨g, m * 4 + 1, none⟩ = some (.int .i64 t.H.toInt) ∧ x.cell? ⟨g, m * 4 + 2, none⟩ = some (.int .i64 t.L.toInt) ∧ x.cell? ⟨g, m * 4 + 3, none⟩ = some (.int .i64 t.n) ∧ Below W3.heap.size W3 x)) := hidP fun x h =>
            ⟨(h.cell bl).trans b0, (h.cell bl).trans b1, (h.cell bl).trans b2, (h.cell bl).trans b3, (h.cell gl).trans r0, (h.cell gl).trans r1, (h.cell gl).trans r2, (h.cell gl).trans r3, h⟩
          refine wp_region_held_drew (S := (fun x => x.cell? ⟨w.heap.size, 0, none⟩ = some (.bool s'.s) ∧ x.cell? ⟨w.heap.size, 1, none⟩ = some (.int .i64 s'.H.toInt) ∧ x.cell? ⟨w.heap.size, 2, none⟩ = some (.int .i64 s'.L.toInt) ∧ x.cell? ⟨w.heap.size, 3, none⟩ = some (.int .i64 s'.n) ∧ x.cell? ⟨g, m * 4, none⟩ = some (.bool t.s) ∧ x.cell? ⟨g, m * 4 + 1, none⟩ = some (.int .i64 t.H.toInt) ∧ x.cell? ⟨g, m * 4 + 2, none⟩ = some (.int .i64 t.L.toInt) ∧ x.cell? ⟨g, m * 4 + 3, none⟩ = some (.int .i64 t.n) ∧ Below W3.heap.size W3 x)) (by kernel_rfl) ?_ (fun hHeld => ?_)
          · try dsimp only
            exact HSx.out _ ((Below.refl _ _).drew)
          refine tk 0 19 rfl ?_
          simp only [pa]
          refine tk 1 20 rfl ?_
          simp only [pa]
          refine tk 2 21 rfl ?_
          simp only [pa]
          refine tk 3 22 rfl ?_
          simp only [pa]
          refine tk 4 23 rfl ?_
          simp only [pa]
          refine tk 5 24 rfl ?_
          simp only [pa]
          refine tk 6 25 rfl ?_
          simp only [pa]
          refine tk 7 26 rfl ?_
          simp only [pa]
          refine wpAnyH_ready (rs := [8]) (by kernel_rfl) (by simp) ?_
          refine AllReadyH.cons rfl (fun K hK => ?_) AllReadyH.nil
          go_simp
          go_wp2_with (first | (go_at_call 61; refine (HWd.out _).mono ?_; rintro e w5 ⟨rfl, hb5⟩; have b5 := (hHeld.2.2.2.2.2.2.2.2).trans (hb5.mono (hHeld.2.2.2.2.2.2.2.2).size)))
          refine hK.out _ _ ?_ (fun hHeld => ?_)
          · try dsimp only
            exact HSx.out _ b5
          clear hK K
          refine tk 9 28 rfl ?_
          simp only [pa]
          refine tk 10 29 rfl ?_
          simp only [pa]
          refine tk 11 30 rfl ?_
          simp only [pa]
          refine tk 12 31 rfl ?_
          simp only [pa]
          refine tk 13 32 rfl ?_
          simp only [pa]
          refine tk 14 33 rfl ?_
          simp only [pa]
          refine tk 15 34 rfl ?_
          simp only [pa]
          refine tk 16 35 rfl ?_
          simp only [pa]
          refine tk 17 36 rfl ?_
          simp only [pa]
          refine tk 18 37 rfl ?_
          simp only [pa]
          refine wpAnyH_ready (rs := [19]) (by kernel_rfl) (by simp) ?_
          refine AllReadyH.cons rfl (fun K hK => ?_) AllReadyH.nil
          go_simp
          go_wp2_with (first | (go_at_call 62; refine (HSi.out _).mono ?_; rintro e w6 ⟨rfl, hb6⟩; have b6 := (hHeld.2.2.2.2.2.2.2.2).trans (hb6.mono (hHeld.2.2.2.2.2.2.2.2).size)))
          refine hK.out _ _ ?_ (fun hHeld => ?_)
          · try dsimp only
            exact HSx.out _ b6
          clear hK K
          refine tk 20 39 rfl ?_
          simp only [pa]
          refine tk 21 40 rfl ?_
          simp only [pa]
          have HE := hidP (hHeld.2.2.2.2.2.2.2.2)
          refine wpAnyH_done (by kernel_rfl) ?_ _
          clear hHeld
          have H4 := hidP (H3.out.below HE.out)
          clear HE b0 b1 b2 b3 r0 r1 r2 r3
          go_wp2_with fail
          go_meet
          case rel => exact ⟨by rw [HcB.out], H4.out⟩
        · have hcB : contB (t :: J2) s' = false := by unfold contB; simp only; rw [decide_eq_false hlt, Bool.false_and]
          have HcB := hidP hcB
          clear hcB
          have d1 : decide ((s'.n : Int) < (wd s'.s : Int)) = false := decide_eq_false (by omega)
          have d2 : decide (s'.n < wd s'.s) = false := decide_eq_false hlt
          have HSx : Hid (∀ x, Below W3.heap.size W3 x → (x.cell? ⟨w.heap.size, 0, none⟩ = some (.bool s'.s) ∧ x.cell? ⟨w.heap.size, 1, none⟩ = some (.int .i64 s'.H.toInt) ∧ x.cell? ⟨w.heap.size, 2, none⟩ = some (.int .i64 s'.L.toInt) ∧ x.cell? ⟨w.heap.size, 3, none⟩ = some (.int .i64 s'.n) ∧ x.cell? ⟨g, m * 4, none⟩ = some (.bool t.s) ∧ x.cell? ⟨g, m * 4 + 1, none⟩ = some (.int .i64 t.H.toInt) ∧ x.cell? ⟨g, m * 4 + 2, none⟩ = some (.int .i64 t.L.toInt) ∧ x.cell? ⟨g, m * 4 + 3, none⟩ = some (.int .i64 t.n) ∧ Below W3.heap.size W3 x)) := hidP fun x h =>
            ⟨(h.cell bl).trans b0, (h.cell bl).trans b1, (h.cell bl).trans b2, (h.cell bl).trans b3, (h.cell gl).trans r0, (h.cell gl).trans r1, (h.cell gl).trans r2, (h.cell gl).trans r3, h⟩
          refine wp_region_held_drew (S := (fun x => x.cell? ⟨w.heap.size, 0, none⟩ = some (.bool s'.s) ∧ x.cell? ⟨w.heap.size, 1, none⟩ = some (.int .i64 s'.H.toInt) ∧ x.cell? ⟨w.heap.size, 2, none⟩ = some (.int .i64 s'.L.toInt) ∧ x.cell? ⟨w.heap.size, 3, none⟩ = some (.int .i64 s'.n) ∧ x.cell? ⟨g, m * 4, none⟩ = some (.bool t.s) ∧ x.cell? ⟨g, m * 4 + 1, none⟩ = some (.int .i64 t.H.toInt) ∧ x.cell? ⟨g, m * 4 + 2, none⟩ = some (.int .i64 t.L.toInt) ∧ x.cell? ⟨g, m * 4 + 3, none⟩ = some (.int .i64 t.n) ∧ Below W3.heap.size W3 x)) (by kernel_rfl) ?_ (fun hHeld => ?_)
          · try dsimp only
            exact HSx.out _ ((Below.refl _ _).drew)
          refine tk 0 19 rfl ?_
          simp only [pa]
          refine tk 1 20 rfl ?_
          simp only [pa]
          refine tk 2 21 rfl ?_
          simp only [pa]
          refine tk 3 22 rfl ?_
          simp only [pa]
          refine tk 4 23 rfl ?_
          simp only [pa]
          refine tk 5 24 rfl ?_
          simp only [pa]
          refine tk 6 25 rfl ?_
          simp only [pa]
          refine tk 7 26 rfl ?_
          simp only [pa]
          refine wpAnyH_ready (rs := [8]) (by kernel_rfl) (by simp) ?_
          refine AllReadyH.cons rfl (fun K hK => ?_) AllReadyH.nil
          go_simp
          go_wp2_with (first | (go_at_call 61; refine (HWd.out _).mono ?_; rintro e w5 ⟨rfl, hb5⟩; have b5 := (hHeld.2.2.2.2.2.2.2.2).trans (hb5.mono (hHeld.2.2.2.2.2.2.2.2).size)))
          refine hK.out _ _ ?_ (fun hHeld => ?_)
          · try dsimp only
            exact HSx.out _ b5
          clear hK K
          refine tk 9 28 rfl ?_
          simp only [pa]
          refine tk 10 29 rfl ?_
          simp only [pa]
          refine tk 11 30 rfl ?_
          simp only [pa]
          refine sk 12 31 rfl ?_
          simp only [pa]
          refine sk 13 32 rfl ?_
          simp only [pa]
          refine sk 14 33 rfl ?_
          simp only [pa]
          refine sk 15 34 rfl ?_
          simp only [pa]
          refine sk 16 35 rfl ?_
          simp only [pa]
          refine sk 17 36 rfl ?_
          simp only [pa]
          refine sk 18 37 rfl ?_
          simp only [pa]
          refine sk 19 38 rfl ?_
          simp only [pa]
          refine sk 20 39 rfl ?_
          simp only [pa]
          refine tk 21 40 rfl ?_
          simp only [pa]
          have HE := hidP (hHeld.2.2.2.2.2.2.2.2)
          refine wpAnyH_done (by kernel_rfl) ?_ _
          clear hHeld
          have H4 := hidP (H3.out.below HE.out)
          clear HE b0 b1 b2 b3 r0 r1 r2 r3
          go_wp2_with fail
          go_meet
          case rel => exact ⟨by rw [HcB.out], H4.out⟩
    obtain ⟨rfl, hJI⟩ := hcut
    obtain ⟨W4, hW4⟩ : ∃ x, x = wc := ⟨_, rfl⟩
    rw [← hW4] at hJI ⊢
    clear hW4 H3
    have H4 := hidP hJI
    clear hJI
    cases hcb : contB J' s'
    · have hpu : pushJ J' s' = s' :: J' := push_stop hcb
      obtain ⟨b0, b1, b2, b3⟩ := H4.out.b
      have bl := H4.out.lt
      have HR := hidP (HP3.out.symm.trans hpu)
      have hk9 : k ≤ 1000 := by rw [HK3.out]; exact HL3.out
      have hBk : B ≤ W4.heap.size + 1 := by have := H4.out.low.size; omega
      have HKm := hidP (show k = (J'.reverse.map Sp.spn).length by rw [HK3.out]; simp)
      clear hpu hcb
      go_wp2_with (at_builtin; refine stp9 ?_)
      unfold Stp9
      have HSr := hidP (src_row (P := Try.prog) Try.fourS9 1 1 rfl (row_one W4 55 s'.spn) (fun h => by cases h))
      have HO9 := hidP (H4.out.own.alloc (.cells #[.bool s'.spn.s, .int .i64 s'.spn.H.toInt, .int .i64 s'.spn.L.toInt, .int .i64 s'.spn.b] 55))
      refine wpList_appR Try.fourS9 _ rfl (.tmp 48) (.tmp 50) 50 rfl B a k c 1 (J'.reverse.map Sp.spn) [s'.spn] (.slice (some ⟨W4.heap.size, 0, none⟩) 1 1) rfl HKm.out rfl HO9.out rfl HSr.out (by omega) (by simpa using hBk) ?_
      intro a9 c9 w9 ho9 hg9 ht9
      have HO := hidP ho9
      have HG := hidP hg9
      have HT := hidP ht9
      clear ho9 hg9 ht9
      go_wp2_with fail
      go_ret
      refine ⟨⟨a9, k + 1, c9, rfl, by rw [HR.out, HK3.out]; simp, ?_, fun q hq => ?_⟩, ?_⟩
      · rw [HR.out, List.reverse_cons, List.map_append]; exact HO.out
      · have hlt := (HO.out.lt q hq).2
        refine ⟨hlt, ?_⟩
        rcases HT.out with h9 | h9
        · right; rw [h9] at hq; exact (obl a n c (k + 1) c9).trans hq
        · left
          rw [h9] at hq
          have hq2 : W4.heap.size + 1 = q := by simpa [Value.ownBlock] using hq
          have := H4.out.low.size
          omega
      · have h1 : w.grownBy (W4.alloc (.cells #[.bool s'.spn.s, .int .i64 s'.spn.H.toInt, .int .i64 s'.spn.L.toInt, .int .i64 s'.spn.b] 55)) (Value.slice a n c).ownBlock := below_grownO (H4.out.low.alloc H4.out.low.size _) _
        have h2 := HG.out
        rw [obl a k c n c] at h2
        exact h1.trans h2
    · cases J' with
      | nil => cases hcb
      | cons t J2 =>
        obtain ⟨h1, h2⟩ := cont_yes hcb
        have hpu := HP3.out
        rw [push_on hcb] at hpu
        have HP4 := hidP hpu
        have hA := hidP (abv_ok HS3.out h1)
        have HAb := hidP (fun W => above_any s'.s s'.H s'.L s'.n (by have := wd_le' s'.s; omega) W)
        have HJ4 := hidP (fun u (hu : u ∈ J2) => HJ3.out u (List.mem_cons_of_mem _ hu))
        obtain ⟨m, hm⟩ : ∃ m, m = J2.length := ⟨_, rfl⟩
        have hkm : k = m + 1 := by rw [HK3.out, hm]; simp
        subst hkm
        have hm9 : m ≤ 1000 := by have h3 := HL3.out; simp at h3; omega
        have hmc : m ≤ c := by have h3 := H4.out.own.caps; omega
        obtain ⟨g, rfl, gw, gl, -⟩ := H4.out.last
        have e0 : IntKind.i64.wrap (m : Int) = (m : Int) := by rw [IntKind.wrap_i64]; omega
        have e8 : 0 ≤ (m : Int) := by omega
        have e2 : IntKind.i64.wrap ((m : Int) + 1 - 1) = (m : Int) := by rw [IntKind.wrap_i64]; omega
        have e9 : (m : Int) ≤ (c : Int) := by omega
        have HM := hidP hm
        obtain ⟨b0, b1, b2, b3⟩ := H4.out.b
        have bl := H4.out.lt
        have bF := H4.out.bF
        clear hm hpu h1 h2 hcb
        go_wp2_with fail
        refine (HAb.out _).mono ?_
        rintro e w5 ⟨rfl, hb5⟩
        have H5 := hidP (H4.out.below hb5)
        clear hb5 b0 b1 b2 b3 bl bF H4
        obtain ⟨b0, b1, b2, b3⟩ := H5.out.b
        have bl := H5.out.lt
        have bF := H5.out.bF
        go_wp2_with fail
        have H6 := hidP ((H5.out.drop).put (abvS s'))
        go_roundw
        case rel =>
          have h6 := H6.out
          rw [← HM.out] at h6
          exact ⟨J2, abvS s', m, rfl, HM.out, HJ4.out, hA.out, by rw [← HM.out]; exact hm9, HP4.out, h6⟩
        case measure => show m < m + 1; omega

theorem joinLast_any (J : List Sp) (s : Sp) (hJ : ∀ t ∈ J, t.ok) (hs : s.ok) (a : Option Addr) (n c B : Nat) (hl : J.length ≤ 1000) (w : World) (hB : B ≤ w.heap.size) (h : OwnR 55 w B (.slice a n c) (J.reverse.map Sp.spn)) :
    Calls Try.prog 31 #[.slice a n c, .agg #[.bool s.s, .int .i64 s.H.toInt, .int .i64 s.L.toInt, .int .i64 s.n]] w fun e w' => (∃ a' n' c', e = .returned (.slice a' n' c') ∧ n' = (joinP J s).length ∧ OwnR 55 w' B (.slice a' n' c') ((joinP J s).reverse.map Sp.spn) ∧ (∀ q, (Value.slice a' n' c').ownBlock = some q → q < w'.heap.size ∧ (w.heap.size ≤ q ∨ (Value.slice a n c).ownBlock = some q))) ∧ w.grownBy w' (Value.slice a n c).ownBlock := by
  cases J with
  | nil => exact jl_push [] s hJ hs a n c B hl w hB h (fun _ _ h => by cases h)
  | cons t J2 =>
    unfold joinP
    simp only
    cases hw : wB s t
    · rw [if_neg (by simp)]
      exact jl_push (t :: J2) s hJ hs a n c B hl w hB h (fun t' J2' h => by cases h; exact hw)
    · rw [if_pos rfl]
      exact jl_in (t :: J2) s hJ a n c B hl w h t J2 rfl hw

end Go.Proofs.Ytgohffeneibhdaa
