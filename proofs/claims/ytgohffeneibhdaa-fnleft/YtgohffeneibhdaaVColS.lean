/-
  The specification's Collapse: of those kept each is put onto a row, halves put together.
-/
import Derived.Test.YtgohffeneibhdaaVSr2
import Derived.Test.YtgohffeneibhdaaVColI
import Derived.Test.YtgohffeneibhdaaBSSib
import Derived.Test.YtgohffeneibhdaaTkB
namespace Go.Proofs.Ytgohffeneibhdaa
open Go.RowKit

def unQ (p : Pf) : Sp := ⟨p.s, p.H, p.L, ((wd p.s : Int) - p.b).toNat⟩
theorem un_pre {x : Sp} (h : x.ok) : unQ x.pre = x := Sp.ext' rfl rfl rfl (by show ((wd x.s : Int) - ((wd x.s : Int) - x.n)).toNat = x.n; have := h.2.1; omega)
theorem perm_pre {R : List Pf} {xs : List Sp} (hx : ∀ x ∈ xs, x.ok) (h : R.Perm (xs.map Sp.pre)) : ∃ ys : List Sp, ys.Perm xs ∧ ys.map Sp.pre = R := by
  have e1 : (xs.map Sp.pre).map unQ = xs := by
    rw [List.map_map]
    have : ∀ x ∈ xs, (unQ ∘ Sp.pre) x = id x := fun x hxm => un_pre (hx x hxm)
    rw [List.map_congr_left this, List.map_id]
  refine ⟨R.map unQ, ?_, ?_⟩
  · have := h.map unQ
    rwa [e1] at this
  · rw [List.map_map]
    have : ∀ r ∈ R, (Sp.pre ∘ unQ) r = id r := fun r hr => by
      obtain ⟨x, hxm, rfl⟩ := List.mem_map.1 (h.mem_iff.1 hr)
      show (unQ x.pre).pre = _
      rw [un_pre (hx x hxm)]; rfl
    rw [List.map_congr_left this, List.map_id]
theorem key_pre (x : Sp) : keyS x.pre = keyP x := rfl
theorem key_same_s {x y : Sp} (h : keyP x = keyP y) : x.s = y.s := by
  rw [key_eq, key_eq] at h
  have a := adr_lt9 x; have b := adr_lt9 y
  cases hx : x.s <;> cases hy : y.s <;> simp [hx, hy] at h ⊢ <;> omega
theorem srd_sr2 {ys : List Sp} (h : Sr2 (ys.map Sp.pre)) : Srd ys := by
  unfold Sr2 at h
  rw [List.pairwise_map] at h
  unfold Srd
  refine h.imp (fun {x y} hxy => ?_)
  rw [cmpF_pos, key_pre, key_pre] at hxy
  have h2 : ¬ (keyP y < keyP x ∨ (keyP x = keyP y ∧ (wd y.s : Int) - y.n < (wd x.s : Int) - x.n)) := hxy
  by_cases hk : keyP x = keyP y
  · have hs := key_same_s hk
    rw [hs] at h2
    exact Or.inr ⟨hk, by omega⟩
  · exact Or.inl (by omega)
theorem keepF_P : ∀ (ys K : List Sp), (∀ y ∈ ys, y.ok) → (∀ y ∈ K, y.ok) → (ys.map Sp.pre).foldl keepF (K.map Sp.pre) = (ys.foldl keepP K).map Sp.pre
  | [], _, _, _ => rfl
  | y :: ys, K, hy, hK => by
    have h0 := hy y (List.mem_cons_self ..)
    have hys : ∀ z ∈ ys, z.ok := fun z hz => hy z (List.mem_cons_of_mem _ hz)
    rw [List.map_cons, List.foldl_cons, List.foldl_cons]
    have e : keepF (K.map Sp.pre) y.pre = (keepP K y).map Sp.pre := by
      cases K with
      | nil => rfl
      | cons t K =>
        have hw : winF y.pre t.pre = wB y t := win_wB h0 (hK t (List.mem_cons_self ..))
        unfold keepP
        simp only [List.map_cons]
        unfold keepF
        simp only
        rw [hw]
        split <;> rfl
    rw [e]
    refine keepF_P ys (keepP K y) hys ?_
    intro z hz
    exact keep_ok [y] K (fun w hw => by rw [List.mem_singleton.1 hw]; exact h0) hK z hz
theorem ins_ex (x : Sp) : ∀ S : List Sp, Srd S → ∃ R : List Sp, R.Perm (x :: S) ∧ Srd R
  | [], _ => ⟨[x], List.Perm.refl _, List.pairwise_singleton _ _⟩
  | y :: S, hS => by
    obtain ⟨h1, h2⟩ := List.pairwise_cons.1 hS
    by_cases hc : keyP x < keyP y ∨ (keyP x = keyP y ∧ y.n ≤ x.n)
    · refine ⟨x :: y :: S, List.Perm.refl _, List.pairwise_cons.2 ⟨fun z hz => ?_, hS⟩⟩
      rcases List.mem_cons.1 hz with rfl | hz
      · exact hc
      · have := h1 z hz; omega
    · obtain ⟨R, r1, r2⟩ := ins_ex x S h2
      refine ⟨y :: R, (List.Perm.cons y r1).trans (List.Perm.swap x y S), List.pairwise_cons.2 ⟨fun z hz => ?_, r2⟩⟩
      rcases List.mem_cons.1 (r1.mem_iff.1 hz) with rfl | hz
      · omega
      · exact h1 z hz
theorem sorted_ex : ∀ xs : List Sp, ∃ ys : List Sp, ys.Perm xs ∧ Srd ys
  | [] => ⟨[], List.Perm.refl _, List.Pairwise.nil⟩
  | x :: xs => by
    obtain ⟨ys, h1, h2⟩ := sorted_ex xs
    obtain ⟨zs, r1, r2⟩ := ins_ex x ys h2
    exact ⟨zs, r1.trans (List.Perm.cons x h1), r2⟩
def eqQ (p q : Pf) : Bool := (p.s == q.s && (p.H == q.H && p.L == q.L)) && p.b == q.b
theorem eqQ_run (x y : Pf) (w : World) : (Op.equalIn 10000 31 (.agg #[.bool x.s, .int .i64 x.H.toInt, .int .i64 x.L.toInt, .int .i64 x.b]) (.agg #[.bool y.s, .int .i64 y.H.toInt, .int .i64 y.L.toInt, .int .i64 y.b])).run Try.prog w = .ok (eqQ x y) w := by
  rw [eqPf, beqI, beqI]; rfl
theorem eqQ_pre (x y : Sp) : eqQ x.pre y.pre = eqS x y := by
  unfold eqQ eqS
  show ((x.s == y.s && (x.H == y.H && x.L == y.L)) && ((wd x.s : Int) - x.n == (wd y.s : Int) - y.n)) = _
  by_cases hs : x.s = y.s
  · congr 1
    rw [Bool.eq_iff_iff, beq_iff_eq, beq_iff_eq, hs]; omega
  · have : (x.s == y.s) = false := by rw [beq_eq_false_iff_ne]; exact hs
    rw [this]; simp
def zeroQ : Pf := ⟨false, 0, 0, 0⟩
theorem sSib_pf (t : Sp) (ht : t.ok) : ∃ (q : Pf) (b : Bool), (∀ w : World, Calls Try.prog 35 #[.agg #[.bool t.pre.s, .int .i64 t.pre.H.toInt, .int .i64 t.pre.L.toInt, .int .i64 t.pre.b]] w fun e w' => e = .returned (.tuple #[.agg #[.bool q.s, .int .i64 q.H.toInt, .int .i64 q.L.toInt, .int .i64 q.b], .bool b]) ∧ Below w.heap.size w w') ∧ b = decide (t.n < wd t.s) ∧ (b = true → q = (sibS t).pre) := by
  have hle := ht.2.1
  have h8 := wd_le' t.s
  have hpk := ht.pok
  by_cases hn : t.n < wd t.s
  · refine ⟨(sibS t).pre, true, fun w => ?_, (decide_eq_true hn).symm, fun _ => rfl⟩
    have hs := sib_n t
    have hb : (sibS t).pre.b = t.pre.b := by unfold Sp.pre; rw [hs.1, hs.2]
    rw [hb]
    unfold sibS
    cases hl : lowB t.H t.L t.n
    · exact sSibling_up t.s t.H t.L ((wd t.s : Int) - t.n) t.n ht.1 (by omega) (by omega) (by omega) hl hpk w
    · exact sSibling_lo t.s t.H t.L ((wd t.s : Int) - t.n) t.n ht.1 (by omega) (by omega) (by omega) hl hpk w
  · have e : (wd t.s : Int) - t.n = 0 := by omega
    refine ⟨zeroQ, false, fun w => ?_, (decide_eq_false hn).symm, fun h => by cases h⟩
    have hpk' : pokB t.s t.H t.L 0 = true := by rw [← e]; exact hpk
    have h1 := sSibling_no t.s t.H t.L ((wd t.s : Int) - t.n) (fun w => by rw [e]; exact sAbove_all t.s t.H t.L hpk' w) w
    have hz : (0 : BitVec 64).toInt = 0 := by decide
    unfold zeroQ
    simp only [hz]
    exact h1
theorem sAbv_pf (t : Sp) (ht : t.ok) (hn : t.n < wd t.s) (w : World) : Calls Try.prog 36 #[.agg #[.bool t.pre.s, .int .i64 t.pre.H.toInt, .int .i64 t.pre.L.toInt, .int .i64 t.pre.b]] w fun e w' => e = .returned (.tuple #[.agg #[.bool (abvS t).pre.s, .int .i64 (abvS t).pre.H.toInt, .int .i64 (abvS t).pre.L.toInt, .int .i64 (abvS t).pre.b], .bool true]) ∧ Below w.heap.size w w' := by
  have h8 := wd_le' t.s
  have hb : (abvS t).pre.b = (wd t.s : Int) - t.n - 1 := by show (wd t.s : Int) - ((t.n + 1 : Nat) : Int) = _; omega
  rw [hb]
  exact sAbove_yes t.s t.H t.L ((wd t.s : Int) - t.n) t.n ht.1 (by omega) (by omega) (by omega) ht.pok w
def contK (t s : Sp) : Bool := decide (t.n < wd t.s) && eqS (sibS t) s
theorem pushK_no {t s : Sp} {J : List Sp} (h : contK t s = false) : pushK (t :: J) s = s :: t :: J := by
  have h' : (decide (t.n < wd t.s) && eqS (sibS t) s) = false := h
  rw [pushK, h']; rfl
theorem pushK_on {t s : Sp} {J : List Sp} (h : contK t s = true) : pushK (t :: J) s = pushK J (abvS t) := by
  have h' : (decide (t.n < wd t.s) && eqS (sibS t) s) = true := h
  rw [pushK, h']; rfl
theorem pushK_okl : ∀ (J : List Sp) (s : Sp), (∀ t ∈ J, t.ok) → s.ok → (∀ t ∈ pushK J s, t.ok) ∧ (pushK J s).length ≤ J.length + 1
  | [], s, _, hs => ⟨fun t ht => by rw [List.mem_singleton.1 ht]; exact hs, Nat.le_refl _⟩
  | t :: J, s, hJ, hs => by
    have ht := hJ t (List.mem_cons_self ..)
    cases hc : contK t s
    · rw [pushK_no hc]
      refine ⟨fun u hu => ?_, by simp⟩
      rcases List.mem_cons.1 hu with h | h
      · exact h ▸ hs
      · exact hJ u h
    · rw [pushK_on hc]
      unfold contK at hc
      simp only [Bool.and_eq_true, decide_eq_true_eq] at hc
      have := pushK_okl J (abvS t) (fun u hu => hJ u (List.mem_cons_of_mem _ hu)) (abv_ok ht hc.1)
      exact ⟨this.1, by rw [List.length_cons]; omega⟩
theorem pushK_len : ∀ (J : List Sp) (s : Sp), (pushK J s).length ≤ J.length + 1
  | [], _ => Nat.le_refl _
  | t :: J, s => by
    cases hc : contK t s
    · rw [pushK_no hc]; simp
    · rw [pushK_on hc]
      have := pushK_len J (abvS t)
      rw [List.length_cons]; omega
theorem foldK_len : ∀ (xs J : List Sp), (xs.foldl pushK J).length ≤ xs.length + J.length
  | [], J => by simp
  | x :: xs, J => by
    rw [List.foldl_cons]
    have h1 := foldK_len xs (pushK J x)
    have h2 := pushK_len J x
    rw [List.length_cons]; omega
theorem foldK_ok : ∀ (xs J : List Sp), (∀ x ∈ xs, x.ok) → (∀ x ∈ J, x.ok) → ∀ x ∈ xs.foldl pushK J, x.ok
  | [], _, _, hJ => hJ
  | x :: xs, J, hx, hJ => by
    rw [List.foldl_cons]
    exact foldK_ok xs _ (fun y hy => hx y (List.mem_cons_of_mem _ hy)) (pushK_okl J x hJ (hx x (List.mem_cons_self ..))).1
theorem row_grown {w w' : World} {a : Option Addr} {ps : List Pf} {r : Option Nat} (h : Row w a ps) (hg : w.grownBy w' r) (hne : ∀ p o, a = some ⟨p, o, none⟩ → some p ≠ r) : Row w' a ps := fun j hj => by
  obtain ⟨p, o, q, ha, hp, hq, c0, c1, c2, c3⟩ := h j hj
  have hc : ∀ i, w'.cell? ⟨p, i, none⟩ = w.cell? ⟨p, i, none⟩ := fun i => World.cell?_of_block (hg.block p hp (hne p o ha))
  exact ⟨p, o, q, ha, Nat.lt_of_lt_of_le hp hg.size, hq, (hc _).trans c0, (hc _).trans c1, (hc _).trans c2, (hc _).trans c3⟩
/-- A box of a prefix. -/
structure Bq (X : World) (p : Nat) (q : Pf) : Prop where
  c0 : X.cell? ⟨p, 0, none⟩ = some (.bool q.s)
  c1 : X.cell? ⟨p, 1, none⟩ = some (.int .i64 q.H.toInt)
  c2 : X.cell? ⟨p, 2, none⟩ = some (.int .i64 q.L.toInt)
  c3 : X.cell? ⟨p, 3, none⟩ = some (.int .i64 q.b)
  lt : p < X.heap.size
theorem Bq.later {X Y : World} {p : Nat} {q : Pf} (h : Bq X p q) (k : Below X.heap.size X Y) : Bq Y p q :=
  ⟨(k.cell h.lt).trans h.c0, (k.cell h.lt).trans h.c1, (k.cell h.lt).trans h.c2, (k.cell h.lt).trans h.c3, Nat.lt_of_lt_of_le h.lt k.size⟩
theorem Bq.new (X : World) (q : Pf) : Bq (X.alloc (.cells #[.bool q.s, .int .i64 q.H.toInt, .int .i64 q.L.toInt, .int .i64 q.b] 31)) X.heap.size q := ⟨by simp [go_sem], by simp [go_sem], by simp [go_sem], by simp [go_sem], by simp⟩
/-- While prefixes are collapsed: the row that is made (st: the last one first), the row that is read. -/
structure CI (s2 s3 : Nat) (w X : World) (a : Option Addr) (k c : Nat) (st : List Sp) (a4 : Option Addr) (kl : List Sp) : Prop where
  low : Below w.heap.size w X
  own : OwnR 31 X w.heap.size (.slice a k c) (st.reverse.map Sp.pre)
  ob : ∀ q, (Value.slice a k c).ownBlock = some q → q < s2 ∨ s3 ≤ q
  row : Row X a4 (kl.map Sp.pre)
  sz : s3 ≤ X.heap.size
theorem CI.below {s2 s3 : Nat} {w X Y : World} {a : Option Addr} {k c : Nat} {st : List Sp} {a4 : Option Addr} {kl : List Sp} (h : CI s2 s3 w X a k c st a4 kl) (hb : Below X.heap.size X Y) : CI s2 s3 w Y a k c st a4 kl :=
  ⟨h.low.trans (hb.mono h.low.size), h.own.later hb, h.ob, h.row.later hb, Nat.le_trans h.sz hb.size⟩
theorem CI.app {s2 s3 : Nat} {w X Y : World} {a : Option Addr} {k c k0 : Nat} {st st0 : List Sp} {a4 : Option Addr} {kl : List Sp} (h : CI s2 s3 w X a k0 c st0 a4 kl) (ha4 : ∀ p o, a4 = some ⟨p, o, none⟩ → s2 ≤ p ∧ p < s3)
    {a' : Option Addr} {k' c' : Nat} (ho : OwnR 31 Y w.heap.size (.slice a' k' c') (st.reverse.map Sp.pre)) (hg : X.grownBy Y (Value.slice a k c).ownBlock) (ht : a' = a ∨ a' = some ⟨X.heap.size, 0, none⟩) : CI s2 s3 w Y a' k' c' st a4 kl := by
  have hg2 : X.grownBy Y (Value.slice a k0 c).ownBlock := by rw [obl a k0 c k c]; exact hg
  refine ⟨h.low.grown hg2 h.low.size (fun q hq => (h.own.lt q hq).1), ho, fun q hq => ?_, row_grown h.row hg2 (fun p o hp he => ?_), Nat.le_trans h.sz hg.size⟩
  · rcases ht with e | e
    · rw [e] at hq; exact h.ob q ((obl a k0 c k' c').trans hq)
    · rw [e] at hq
      right
      have : X.heap.size = q := by simpa [Value.ownBlock] using hq
      have := h.sz
      omega
  · have h1 := ha4 p o hp
    have h2 := h.ob p he.symm
    omega
theorem CI.drop {s2 s3 : Nat} {w X : World} {a : Option Addr} {k c : Nat} {t s : Sp} {st : List Sp} {a4 : Option Addr} {kl : List Sp} (h : CI s2 s3 w X a k c (s :: t :: st) a4 kl) : OwnR 31 X w.heap.size (.slice a st.length c) (st.reverse.map Sp.pre) := by
  have hk : k = st.length + 1 + 1 := by rw [h.own.caps.1]; simp
  have := h.own.take (L := st.length) (by omega)
  rw [List.reverse_cons, List.reverse_cons, List.map_append, List.map_append, List.append_assoc, List.take_left' (by simp)] at this
  exact this
theorem CI.two {s2 s3 : Nat} {w X : World} {a : Option Addr} {k c : Nat} {t s : Sp} {st : List Sp} {a4 : Option Addr} {kl : List Sp} (h : CI s2 s3 w X a k c (s :: t :: st) a4 kl) : ∃ g, a = some ⟨g, 0, none⟩ ∧ g < X.heap.size ∧ k = st.length + 1 + 1 ∧
    (X.cell? ⟨g, st.length * 4, none⟩ = some (.bool t.pre.s) ∧ X.cell? ⟨g, st.length * 4 + 1, none⟩ = some (.int .i64 t.pre.H.toInt) ∧ X.cell? ⟨g, st.length * 4 + 2, none⟩ = some (.int .i64 t.pre.L.toInt) ∧ X.cell? ⟨g, st.length * 4 + 3, none⟩ = some (.int .i64 t.pre.b)) ∧
    (X.cell? ⟨g, (st.length + 1) * 4, none⟩ = some (.bool s.pre.s) ∧ X.cell? ⟨g, (st.length + 1) * 4 + 1, none⟩ = some (.int .i64 s.pre.H.toInt) ∧ X.cell? ⟨g, (st.length + 1) * 4 + 2, none⟩ = some (.int .i64 s.pre.L.toInt) ∧ X.cell? ⟨g, (st.length + 1) * 4 + 3, none⟩ = some (.int .i64 s.pre.b)) := by
  have hk : k = st.length + 1 + 1 := by rw [h.own.caps.1]; simp
  obtain ⟨g, rfl⟩ := ownR_some h.own (by omega)
  have e1 : ((s :: t :: st).reverse.map Sp.pre)[st.length]? = some t.pre := by
    rw [List.reverse_cons, List.reverse_cons, List.map_append, List.map_append, List.append_assoc, List.getElem?_append_right (by simp)]
    simp
  have e2 : ((s :: t :: st).reverse.map Sp.pre)[st.length + 1]? = some s.pre := by
    rw [List.reverse_cons, List.map_append, List.getElem?_append_right (by simp)]
    simp
  exact ⟨g, rfl, (h.own.lt g rfl).2, hk, h.own.atk _ _ e1, h.own.atk _ _ e2⟩

set_option maxRecDepth 10000 in
set_option maxHeartbeats 16000000 in
theorem sColl_core (kl : List Sp) (hkl : ∀ x ∈ kl, x.ok) (hkn : kl.length ≤ 300) (a : Option Addr) (n cap : Nat) (w : World)
    (hRi : ∀ W : World, Below w.heap.size w W → Calls Try.prog 33 #[.slice a n cap] W fun e w' => e = .returned (.bool true) ∧ Below W.heap.size W w')
    (hSo : ∀ W : World, Below w.heap.size w W → Calls Try.prog 34 #[.slice a n cap] W fun e w' => ∃ a' n' c', n' = kl.length ∧ e = .returned (.slice a' n' c') ∧ OwnR 31 w' W.heap.size (.slice a' n' c') (kl.map Sp.pre) ∧ Below W.heap.size W w') :
    Calls Try.prog 9 #[.slice a n cap] w fun e w' => ∃ a' m c', e = .returned (.slice a' m c') ∧ m = (kl.foldl pushK []).length ∧ OwnR 31 w' w.heap.size (.slice a' m c') ((kl.foldl pushK []).reverse.map Sp.pre) ∧ Below w.heap.size w w' := by
  have HRi := hidP hRi
  have HSo := hidP hSo
  have HKl := hidP hkl
  clear hRi hSo hkl
  have HZ := hidP (own_zero w w.heap.size 31 (Nat.le_refl _))
  have HZB := hidP (alloc_b w (.cells #[] 31))
  have HZL := hidP (show w.heap.size < (w.alloc (.cells #[] 31)).heap.size by simp)
  go_enter Try.func9, Try.ntmps9
  go_wp2_with fail
  generalize w.alloc (.cells #[] 31) = W1 at *
  refine (HRi.out _ HZB.out).mono ?_
  rintro e w2 ⟨rfl, hb2⟩
  have HB2 := hidP (HZB.out.trans (hb2.mono HZB.out.size))
  have HO2 := hidP (HZ.out.later hb2)
  have HL2 := hidP (Nat.lt_of_lt_of_le HZL.out hb2.size)
  clear hb2 HZ HZB HZL HRi
  go_wp2_with fail
  refine (HSo.out _ HB2.out).mono ?_
  rintro e w3 ⟨a4, k4, c4, hk4, rfl, ho4, hb3⟩
  have HA4 := hidP (show ∀ p o, a4 = some ⟨p, o, none⟩ → w2.heap.size ≤ p ∧ p < w3.heap.size from fun p o hp => ho4.lt p (by rw [hp]; rfl))
  have H3 := hidP (show CI w2.heap.size w3.heap.size w w3 (some ⟨w.heap.size, 0, none⟩) 0 0 [] a4 kl from ⟨HB2.out.trans (hb3.mono HB2.out.size), HO2.out.later hb3, fun q hq => Or.inl (by rw [← Option.some.inj hq]; exact HL2.out), ho4.row, Nat.le_refl _⟩)
  have HK4 := hidP hk4
  have hk9 : k4 ≤ 300 := by omega
  generalize w3.heap.size = s3 at *
  generalize w2.heap.size = s2 at *
  clear ho4 hb3 hk4 HB2 HO2 HL2 HSo hkn
  go_wp2_with fail
  go_loopw [3, 5] (fun t3 t5 wr => ∃ (a3 : Option Addr) (k3 c3 j : Nat), t3 = .slice a3 k3 c3 ∧ t5 = .int .i64 j ∧ j ≤ k4 ∧ CI s2 s3 w wr a3 k3 c3 ((kl.take j).foldl pushK []) a4 kl) (fun _ t5 _ => k4 - (intOf t5).toNat)
  case atStart => exact ⟨_, 0, 0, 0, rfl, rfl, Nat.zero_le _, H3.out⟩
  case round =>
    obtain ⟨a3, k3, c3, j, rfl, rfl, hj, hci⟩ := hrel
    obtain ⟨wq, hwq⟩ : ∃ z, z = wr := ⟨_, rfl⟩
    rw [← hwq] at hci ⊢
    clear hwq H3
    have HC := hidP hci
    have hk3 : k3 = ((kl.take j).foldl pushK []).length := by rw [hci.own.caps.1]; simp
    have hkj : k3 ≤ j := by
      rw [hk3]
      exact Nat.le_trans (foldK_len _ _) (by rw [List.length_take]; simp; omega)
    have HK3 := hidP hk3
    clear hci hk3
    by_cases hlt : j < k4
    · have hjl : j < kl.length := by rw [← HK4.out]; exact hlt
      obtain ⟨es, hes⟩ : ∃ es, kl[j]? = some es := ⟨_, List.getElem?_eq_getElem hjl⟩
      obtain ⟨p, o, pq, rfl, hpl, hpq, y0, y1, y2, y3⟩ := HC.out.row j (by rw [List.length_map]; exact hjl)
      have hpe : pq = es.pre := by
        rw [List.getElem?_map, hes] at hpq
        exact (Option.some.inj hpq).symm
      have HPe := hidP hpe
      have HES := hidP (And.intro hes (HKl.out es (List.mem_of_getElem? hes)))
      have hji : (j : Int) < (k4 : Int) := by omega
      clear hpq hjl hes hpe
      obtain ⟨J, hJ⟩ : ∃ J, J = (kl.take j).foldl pushK [] := ⟨_, rfl⟩
      rw [← hJ] at HC HK3
      have HJK := hidP hJ
      have HKr := hidP (show k3 = (J.reverse.map Sp.pre).length by rw [HK3.out]; simp)
      clear hJ
      go_wp2_with (at_builtin; refine stp9 ?_)
      unfold Stp9
      have hba := alloc_b wq (.cells #[.bool pq.s, .int .i64 pq.H.toInt, .int .i64 pq.L.toInt, .int .i64 pq.b] 31)
      have HSr := hidP (src_row (P := Try.prog) Try.fourP9 1 1 rfl (row_one wq 31 pq) (fun h => by cases h))
      have HC2 := hidP (HC.out.below hba)
      refine wpList_appR Try.fourP9 _ rfl (.tmp 25) (.tmp 30) 24 rfl w.heap.size a3 k3 c3 1 (J.reverse.map Sp.pre) [pq] (.slice (some ⟨wq.heap.size, 0, none⟩) 1 1) rfl HKr.out rfl HC2.out.own rfl HSr.out (by omega) HC2.out.low.size ?_
      intro a9 c9 w9 ho9 hg9 ht9
      have ho9' : OwnR 31 w9 w.heap.size (.slice a9 (k3 + 1) c9) ((es :: J).reverse.map Sp.pre) := by
        rw [List.reverse_cons, List.map_append]
        rw [HPe.out] at ho9
        exact ho9
      have HC9 := hidP (HC2.out.app HA4.out ho9' hg9 ht9)
      clear ho9 ho9' hg9 ht9 hba y0 y1 y2 y3 HSr HC2 HC hpl
      have HJok := hidP (show (∀ u ∈ J, u.ok) from by rw [HJK.out]; exact foldK_ok _ _ (fun u hu => HKl.out u (List.mem_of_mem_take hu)) (fun u hu => by cases hu))
      go_wp2_with fail
      go_loopw [3] (fun t3 wx => ∃ (a3 : Option Addr) (k c3 : Nat) (s' : Sp) (J' : List Sp), t3 = .slice a3 k c3 ∧ k = J'.length + 1 ∧ k ≤ j + 1 ∧ s'.ok ∧ (∀ u ∈ J', u.ok) ∧ pushK J' s' = pushK J es ∧ CI s2 s3 w wx a3 k c3 (s' :: J') (some ⟨p, o, none⟩) kl) (fun t3 _ => lenV t3)
      case atStart => exact ⟨a9, k3 + 1, c9, es, J, rfl, by rw [HK3.out], by omega, HES.out.2, HJok.out, rfl, HC9.out⟩
      case round =>
        obtain ⟨a3, k, c3, s', J', rfl, hk, hkj', hs', hj', hp', hci⟩ := hrel
        obtain ⟨W4, hW4⟩ : ∃ z, z = wr := ⟨_, rfl⟩
        rw [← hW4] at hci ⊢
        clear hW4 HC9
        have HC4 := hidP hci
        have HS4 := hidP (And.intro hs' (And.intro hj' hp'))
        clear hci hs' hj' hp'
        cases J' with
        | nil =>
          have hk1 : k = 1 := hk
          subst hk1
          have HST := hidP (show (kl.take (j + 1)).foldl pushK [] = [s'] by rw [List.take_add_one, HES.out.1, List.foldl_append, ← HJK.out]; exact HS4.out.2.2.symm)
          clear hk
          go_wp2_with fail
          go_roundw
          case rel => exact ⟨a3, 1, c3, j + 1, rfl, by go_num, by omega, by rw [HST.out]; exact HC4.out⟩
          case measure => simp [intOf]; omega
        | cons et J2 =>
          obtain ⟨g, rfl, gl, hk2, ⟨t0, t1, t2, t3⟩, ⟨u0, u1, u2, u3⟩⟩ := HC4.out.two
          obtain ⟨m, hm⟩ : ∃ m, m = J2.length := ⟨_, rfl⟩
          have hkm : k = m + 2 := by rw [hm]; omega
          rw [← hm] at t0 t1 t2 t3 u0 u1 u2 u3
          have hbp : m + 2 ≤ j + 1 := by omega
          obtain ⟨q, b, hSib, hb, hq⟩ := sSib_pf et (HS4.out.2.1 et (List.mem_cons_self ..))
          have HAb := hidP (fun h => sAbv_pf et (HS4.out.2.1 et (List.mem_cons_self ..)) h)
          have HPt := hidP (And.intro hb hq)
          have hEQ : b = true → eqQ q s'.pre = eqS (sibS et) s' := fun h => by rw [hq h]; exact eqQ_pre _ _
          have HEQ := hidP hEQ
          obtain ⟨pt, hpt⟩ : ∃ pt, pt = et.pre := ⟨_, rfl⟩
          obtain ⟨pz, hpz⟩ : ∃ pz, pz = s'.pre := ⟨_, rfl⟩
          rw [← hpt] at t0 t1 t2 t3 hSib HAb
          rw [← hpz] at u0 u1 u2 u3 HEQ
          have HSb := hidP hSib
          have HM := hidP (And.intro hm (And.intro hpt hpz))
          have HKm := hidP hkm
          clear hm hpt hpz hSib hb hq hEQ hk hk2
          subst hkm
          have e0 : IntKind.i64.wrap (m : Int) = (m : Int) := by rw [IntKind.wrap_i64]; omega
          have e1 : IntKind.i64.wrap ((m : Int) + 2 - 2) = (m : Int) := by rw [IntKind.wrap_i64]; omega
          have e2 : IntKind.i64.wrap ((m : Int) + 2 - 1) = (m : Int) + 1 := by rw [IntKind.wrap_i64]; omega
          have e3 : IntKind.i64.wrap ((m : Int) + 1) = (m : Int) + 1 := by rw [IntKind.wrap_i64]; omega
          have e4 : ((m : Int) + 1).toNat = m + 1 := by omega
          have e5 : decide ((1 : Int) < (m : Int) + 2) = true := decide_eq_true (by omega)
          have e6 : (1 : Int) < (m : Int) + 2 := by omega
          have e7 : 1 < m + 2 := by omega
          have e8 : 0 ≤ (m : Int) := by omega
          have e9 : (m : Int) < (m : Int) + 2 := by omega
          have f0 : (m : Int) + 1 < (m : Int) + 2 := by omega
          have f1 : 0 ≤ (m : Int) + 1 := by omega
          have f2 : m < m + 2 := by omega
          have f3 : m + 1 < m + 2 := by omega
          go_upto_region 12 with fail
          have B1 := Bq.new W4 pt
          have k1 := alloc_b W4 (.cells #[.bool pt.s, .int .i64 pt.H.toInt, .int .i64 pt.L.toInt, .int .i64 pt.b] 31)
          have hs5 : (W4.alloc (.cells #[.bool pt.s, .int .i64 pt.H.toInt, .int .i64 pt.L.toInt, .int .i64 pt.b] 31)).heap.size = W4.heap.size + 1 := by simp
          have C5 := HC4.out.below k1
          generalize W4.alloc (.cells #[.bool pt.s, .int .i64 pt.H.toInt, .int .i64 pt.L.toInt, .int .i64 pt.b] 31) = W5 at *
          have B2 := Bq.new W5 pz
          have k2 := alloc_b W5 (.cells #[.bool pz.s, .int .i64 pz.H.toInt, .int .i64 pz.L.toInt, .int .i64 pz.b] 31)
          have B1' := B1.later k2
          have C6 := C5.below k2
          rw [hs5] at B2
          generalize W5.alloc (.cells #[.bool pz.s, .int .i64 pz.H.toInt, .int .i64 pz.L.toInt, .int .i64 pz.b] 31) = W6 at *
          generalize W4.heap.size = x6 at *
          have HB1 := hidP B1'
          have HB2 := hidP B2
          have HC6 := hidP C6
          clear B1 B1' B2 C5 C6 k1 k2 hs5 t0 t1 t2 t3 u0 u1 u2 u3 HC4 gl
          obtain ⟨t0, t1, t2, t3, tl⟩ := HB1.out
          go_wp2_with fail
          refine (HSb.out _).mono ?_
          rintro e w7 ⟨rfl, k3⟩
          have HB3 := hidP (HB1.out.later k3)
          have HB4 := hidP (HB2.out.later k3)
          have HC7 := hidP (HC6.out.below k3)
          clear k3 t0 t1 t2 t3 tl HB1 HB2 HC6 HSb
          go_upto_region 13 with fail
          have B5 := hidP (Bq.new w7 q)
          have k4 := alloc_b w7 (.cells #[.bool q.s, .int .i64 q.H.toInt, .int .i64 q.L.toInt, .int .i64 q.b] 31)
          have HB5 := hidP (HB3.out.later k4)
          have HB6 := hidP (HB4.out.later k4)
          have HC8 := hidP (HC7.out.below k4)
          clear k4 HB3 HB4 HC7
          generalize w7.alloc (.cells #[.bool q.s, .int .i64 q.H.toInt, .int .i64 q.L.toInt, .int .i64 q.b] 31) = W8 at *
          generalize w7.heap.size = x8 at *
          obtain ⟨q0, q1, q2, q3, ql⟩ := B5.out
          obtain ⟨z0, z1, z2, z3, zl⟩ := HB6.out
          have hEq := eqQ_run q pz
          cases hcK : contK et s'
          · have HST := hidP (show (kl.take (j + 1)).foldl pushK [] = s' :: et :: J2 by rw [List.take_add_one, HES.out.1, List.foldl_append, ← HJK.out]; exact HS4.out.2.2.symm.trans (pushK_no hcK))
            have hcc : b = false ∨ (b = true ∧ eqQ q pz = false) := by
              cases hbb : b
              · exact Or.inl rfl
              · right
                refine ⟨rfl, ?_⟩
                have h1 := HPt.out.1
                rw [hbb] at h1
                unfold contK at hcK
                rw [← h1, Bool.true_and] at hcK
                rw [HEQ.out hbb]
                exact hcK
            clear hcK
            rcases hcc with rfl | ⟨rfl, hqf⟩
            · go_wp2_with fail
              go_roundw
              case rel => exact ⟨_, m + 2, c3, j + 1, rfl, by go_num, by omega, by rw [HST.out]; exact HC8.out⟩
              case measure => simp [intOf]; omega
            · rw [hqf] at hEq
              clear hqf
              go_wp2_with fail
              go_roundw
              case rel => exact ⟨_, m + 2, c3, j + 1, rfl, by go_num, by omega, by rw [HST.out]; exact HC8.out⟩
              case measure => simp [intOf]; omega
          · have hcc : b = true ∧ eqQ q pz = true ∧ et.n < wd et.s := by
              unfold contK at hcK
              rw [Bool.and_eq_true, decide_eq_true_eq] at hcK
              have hbb : b = true := by rw [HPt.out.1]; exact decide_eq_true hcK.1
              exact ⟨hbb, by rw [HEQ.out hbb]; exact hcK.2, hcK.1⟩
            obtain ⟨rfl, hqf, hnw⟩ := hcc
            rw [hqf] at hEq
            have HPu := hidP (HS4.out.2.2.symm.trans (pushK_on hcK))
            have HAo := hidP (abv_ok (HS4.out.2.1 et (List.mem_cons_self ..)) hnw)
            have HJ2 := hidP (fun u (hu : u ∈ J2) => HS4.out.2.1 u (List.mem_cons_of_mem _ hu))
            have HAv := hidP (HAb.out hnw)
            obtain ⟨pu, hpu⟩ : ∃ pu, pu = (abvS et).pre := ⟨_, rfl⟩
            rw [← hpu] at HAv
            have HU := hidP hpu
            clear hqf hcK hnw hpu
            obtain ⟨t0, t1, t2, t3, tl⟩ := HB5.out
            go_upto_region 14 with fail
            clear q0 q1 q2 q3 ql z0 z1 z2 z3 zl hEq
            go_wp2_with fail
            refine (HAv.out _).mono ?_
            rintro e w9 ⟨rfl, k5⟩
            have HC9 := hidP (HC8.out.below k5)
            clear k5 t0 t1 t2 t3 tl HB5 HB6 HC8 B5
            go_upto_region 15 with fail
            have B9 := Bq.new w9 pu
            have k6 := alloc_b w9 (.cells #[.bool pu.s, .int .i64 pu.H.toInt, .int .i64 pu.L.toInt, .int .i64 pu.b] 31)
            have HC10 := hidP (HC9.out.below k6)
            have hgl := (HC10.out.own.lt g rfl)
            have hgn : g ≠ w9.heap.size := Nat.ne_of_lt (HC9.out.own.lt g rfl).2
            generalize w9.alloc (.cells #[.bool pu.s, .int .i64 pu.H.toInt, .int .i64 pu.L.toInt, .int .i64 pu.b] 31) = W10 at *
            generalize w9.heap.size = x10 at *
            have HB9 := hidP B9
            have hmc : m ≤ c3 := by have h5 := HC10.out.own.caps; omega
            have g1 : (m : Int) ≤ (c3 : Int) := by omega
            clear k6 HC9 B9
            have HSx : Hid (∀ x, Below W10.heap.size W10 x → (x.cell? ⟨x10, 0, none⟩ = some (.bool pu.s) ∧ x.cell? ⟨x10, 1, none⟩ = some (.int .i64 pu.H.toInt) ∧ x.cell? ⟨x10, 2, none⟩ = some (.int .i64 pu.L.toInt) ∧ x.cell? ⟨x10, 3, none⟩ = some (.int .i64 pu.b))) := hidP fun x h => ⟨(h.cell HB9.out.lt).trans HB9.out.c0, (h.cell HB9.out.lt).trans HB9.out.c1, (h.cell HB9.out.lt).trans HB9.out.c2, (h.cell HB9.out.lt).trans HB9.out.c3⟩
            refine wp_region_held_drew (S := (fun x => x.cell? ⟨x10, 0, none⟩ = some (.bool pu.s) ∧ x.cell? ⟨x10, 1, none⟩ = some (.int .i64 pu.H.toInt) ∧ x.cell? ⟨x10, 2, none⟩ = some (.int .i64 pu.L.toInt) ∧ x.cell? ⟨x10, 3, none⟩ = some (.int .i64 pu.b))) (by kernel_rfl) ?_ (fun hHeld => ?_)
            · try dsimp only
              exact HSx.out _ ((Below.refl _ _).drew)
            have HC11 := hidP (HC10.out.below (Below.refl _ _).drew)
            have HSy : Hid (∀ x, Below W10.drew.heap.size W10.drew x → Below W10.heap.size W10 x) := hidP fun x h => (Below.refl _ W10).drew.trans h
            generalize W10.drew = D at *
            refine tk 0 64 rfl ?_
            simp only [pa]
            refine tk 1 65 rfl ?_
            simp only [pa]
            refine tk 2 66 rfl ?_
            simp only [pa]
            refine tk 3 67 rfl ?_
            simp only [pa]
            refine tk 4 68 rfl ?_
            simp only [pa]
            refine tk 5 69 rfl ?_
            simp only [pa]
            refine wpAnyH_ready (rs := [6]) (by kernel_rfl) (by simp) ?_
            refine AllReadyH.cons rfl (fun K hK => ?_) AllReadyH.nil
            go_simp
            have k7 := alloc_b D (.cells #[.bool pu.s, .int .i64 pu.H.toInt, .int .i64 pu.L.toInt, .int .i64 pu.b] 31)
            have HSr := hidP (src_row (P := Try.prog) Try.fourP9 1 1 rfl (row_one D 31 pu) (fun h => by cases h))
            have HC12 := hidP (HC11.out.below k7)
            have k8 := HSy.out _ k7
            generalize D.alloc (.cells #[.bool pu.s, .int .i64 pu.H.toInt, .int .i64 pu.L.toInt, .int .i64 pu.b] 31) = D2 at *
            generalize D.heap.size = x12 at *
            refine hK.out _ _ ?_ (fun hHeld => ?_)
            · try dsimp only
              exact HSx.out _ k8
            clear hK K
            refine wpAnyH_ready (rs := [7]) (by kernel_rfl) (by simp) ?_
            refine AllReadyH.cons rfl (fun K hK => ?_) AllReadyH.nil
            have HDr := hidP (HC12.out.drop)
            refine step_appR Try.fourP9 _ rfl (.tmp 68) (.tmp 70) 24 rfl w.heap.size (some ⟨g, 0, none⟩) m c3 1 (J2.reverse.map Sp.pre) [pu] (.slice (some ⟨x12, 0, none⟩) 1 1) rfl (by rw [HM.out.1]; simp) rfl (by rw [HM.out.1]; exact HDr.out) rfl HSr.out (by omega) HC12.out.low.size ?_
            intro a9 c9 w13 ho9 hg9 ht9
            have ho9' : OwnR 31 w13 w.heap.size (.slice a9 (m + 1) c9) ((abvS et :: J2).reverse.map Sp.pre) := by
              rw [List.reverse_cons, List.map_append]
              rw [HU.out] at ho9
              exact ho9
            have HC13 := hidP (HC12.out.app HA4.out ho9' hg9 ht9)
            have hcel : ∀ o, w13.cell? ⟨x10, o, none⟩ = D2.cell? ⟨x10, o, none⟩ := fun o => World.cell?_of_block (hg9.block x10 (Nat.lt_of_lt_of_le HB9.out.lt k8.size) (fun he => hgn (Option.some.inj he).symm))
            refine hK.out _ _ ?_ (fun hHeld2 => ?_)
            · try dsimp only
              exact ⟨(hcel 0).trans hHeld.1, (hcel 1).trans hHeld.2.1, (hcel 2).trans hHeld.2.2.1, (hcel 3).trans hHeld.2.2.2⟩
            clear hK K ho9 ho9' hg9 ht9 hcel hHeld
            refine tk 8 3 rfl ?_
            simp only [pa]
            refine wpAnyH_done (by kernel_rfl) ?_ _
            clear hHeld2
            go_wp2_with fail
            go_roundw
            case rel =>
              (repeat apply Exists.intro)
              exact ⟨⟨a9, m + 1, c9, abvS et, J2, rfl, by rw [HM.out.1], by omega, HAo.out, HJ2.out, HPu.out.symm, HC13.out⟩, rfl⟩
            case measure => show m + 1 < m + 2; omega
    · have hji : j = k4 := by omega
      subst hji
      have htk : kl.take j = kl := List.take_of_length_le (by rw [← HK4.out]; exact Nat.le_refl _)
      have hc := HC.out
      have hk := HK3.out
      rw [htk] at hc hk
      have HF := hidP (And.intro hc hk)
      clear hc hk htk
      go_wp2_with fail
      go_ret
      exact ⟨a3, k3, c3, rfl, HF.out.2, HF.out.1.own, HF.out.1.low⟩

end Go.Proofs.Ytgohffeneibhdaa
