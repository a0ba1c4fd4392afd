/-
  Rows of prefixes, four cells each: how they lie in memory, what an append to one of the call's own makes.
-/
import Derived.Test.YtamaanbnlnpjcaaAOk
import Derived.Deep.AppendSrc
import Derived.OwnWalk
namespace Go.Proofs.Ytamaanbnlnpjcaa
open Go.RowKit

theorem hidP {p : Prop} (h : p) : Hid p := h

/-- Four cells: a bool, two words, a number. -/
structure Pf where
  s : Bool
  H : BitVec 64
  L : BitVec 64
  b : Int

def Pf.cs (p : Pf) : List Value := [.bool p.s, .int .i64 p.H.toInt, .int .i64 p.L.toInt, .int .i64 p.b]
def flat : List Pf → List Value
  | [] => []
  | p :: t => p.cs ++ flat t
theorem flat_len : ∀ ps : List Pf, (flat ps).length = ps.length * 4
  | [] => rfl
  | p :: t => by simp [flat, Pf.cs, flat_len t]; omega
theorem flat_app : ∀ ps qs : List Pf, flat (ps ++ qs) = flat ps ++ flat qs
  | [], _ => rfl
  | p :: t, qs => by simp [flat, flat_app t qs]
theorem flat_one : ∀ ps : List Pf, ∀ u ∈ flat ps, u.oneCell' = true
  | [], u, h => by cases h
  | p :: t, u, h => by
      rcases List.mem_append.1 h with h | h
      · simp [Pf.cs] at h
        rcases h with rfl | rfl | rfl | rfl <;> rfl
      · exact flat_one t u h
theorem flat_at : ∀ (ps : List Pf) (j : Nat) (q : Pf), ps[j]? = some q → (flat ps)[j * 4]? = some (.bool q.s) ∧ (flat ps)[j * 4 + 1]? = some (.int .i64 q.H.toInt) ∧ (flat ps)[j * 4 + 2]? = some (.int .i64 q.L.toInt) ∧ (flat ps)[j * 4 + 3]? = some (.int .i64 q.b)
  | [], j, q, h => by simp at h
  | p :: t, 0, q, h => by
      simp at h; subst h; simp [flat, Pf.cs]
  | p :: t, j + 1, q, h => by
      have := flat_at t j q (by simpa using h)
      have e : ∀ i, (flat (p :: t))[(j + 1) * 4 + i]? = (flat t)[j * 4 + i]? := fun i => by
        show (p.cs ++ flat t)[(j + 1) * 4 + i]? = _
        rw [List.getElem?_append_right (by simp [Pf.cs]; omega)]
        congr 1
        simp [Pf.cs]; omega
      have e0 := e 0
      rw [Nat.add_zero, Nat.add_zero] at e0
      rw [e0, e 1, e 2, e 3]
      exact this

/-- What is read of a row. -/
def Row (w : World) (a : Option Addr) (ps : List Pf) : Prop := ∀ j, j < ps.length → ∃ p o q, a = some ⟨p, o, none⟩ ∧ p < w.heap.size ∧ ps[j]? = some q ∧
  w.cell? ⟨p, o + j * 4, none⟩ = some (.bool q.s) ∧ w.cell? ⟨p, o + j * 4 + 1, none⟩ = some (.int .i64 q.H.toInt) ∧ w.cell? ⟨p, o + j * 4 + 2, none⟩ = some (.int .i64 q.L.toInt) ∧ w.cell? ⟨p, o + j * 4 + 3, none⟩ = some (.int .i64 q.b)
/-- A row of one's own. -/
def OwnR (t : TypeId) (w : World) (B : Nat) (v : Value) (ps : List Pf) : Prop := w.ownsRow B t 4 v ps.length (flat ps)

theorem Row.later {w w' : World} {a : Option Addr} {ps : List Pf} (h : Row w a ps) (hb : Below w.heap.size w w') : Row w' a ps := fun j hj => by
  obtain ⟨p, o, q, ha, hp, hq, c0, c1, c2, c3⟩ := h j hj
  exact ⟨p, o, q, ha, Nat.lt_of_lt_of_le hp hb.size, hq, (hb.cell hp).trans c0, (hb.cell hp).trans c1, (hb.cell hp).trans c2, (hb.cell hp).trans c3⟩
theorem Row.nil (w : World) (a : Option Addr) : Row w a [] := fun j hj => absurd hj (Nat.not_lt_zero j)
theorem OwnR.row {t : TypeId} {w : World} {B n cap : Nat} {a : Option Addr} {ps : List Pf} (h : OwnR t w B (.slice a n cap) ps) : Row w a ps := fun j hj => by
  rcases h.2 with ⟨hv, hn⟩ | ⟨g, c, cur, hv, _, hg, _⟩
  · omega
  · simp at hv
    obtain ⟨rfl, rfl, rfl⟩ := hv
    have hq : ps[j]? = some ps[j] := List.getElem?_eq_getElem hj
    obtain ⟨c0, c1, c2, c3⟩ := flat_at ps j _ hq
    have k := fun (i : Nat) (hi : i < 4) => World.ownsRow.cellAt h (j * 4 + i) (by omega : j * 4 + i < ps.length * 4)
    refine ⟨g, 0, ps[j], rfl, ?_, hq, ?_, ?_, ?_, ?_⟩
    · rcases Nat.lt_or_ge g w.heap.size with h' | h'
      · exact h'
      · rw [Array.getElem?_eq_none h'] at hg; cases hg
    · have := k 0 (by omega : 0 < 4); rw [Nat.zero_add]; rw [Nat.add_zero] at this; rw [this, c0]
    · have := k 1 (by omega : 1 < 4); rw [Nat.zero_add, this, c1]
    · have := k 2 (by omega : 2 < 4); rw [Nat.zero_add, this, c2]
    · have := k 3 (by omega : 3 < 4); rw [Nat.zero_add, this, c3]
theorem OwnR.form {t : TypeId} {w : World} {B : Nat} {v : Value} {ps : List Pf} (h : OwnR t w B v ps) : ∃ a c, v = .slice a ps.length c := by
  rcases h.2 with ⟨rfl, hn⟩ | ⟨g, c, cur, rfl, _⟩
  · exact ⟨none, 0, by rw [hn]⟩
  · exact ⟨_, _, rfl⟩
theorem OwnR.lt {t : TypeId} {w : World} {B : Nat} {v : Value} {ps : List Pf} (h : OwnR t w B v ps) : ∀ k, v.ownBlock = some k → B ≤ k ∧ k < w.heap.size := World.ownsRow.lt h
theorem OwnR.alloc {t : TypeId} {w : World} {B : Nat} {v : Value} {ps : List Pf} (h : OwnR t w B v ps) (o : Obj) : OwnR t (w.alloc o) B v ps := World.ownsRow.alloc h o
theorem OwnR.mono {t : TypeId} {w : World} {B B' : Nat} {v : Value} {ps : List Pf} (h : OwnR t w B v ps) (hb : B' ≤ B) : OwnR t w B' v ps := by
  refine ⟨h.1, ?_⟩
  rcases h.2 with h' | ⟨g, c, cur, h1, h2, h3⟩
  · exact Or.inl h'
  · exact Or.inr ⟨g, c, cur, h1, Nat.le_trans hb h2, h3⟩
theorem OwnR.later {t : TypeId} {w w' : World} {B : Nat} {v : Value} {ps : List Pf} (h : OwnR t w B v ps) (hb : Below w.heap.size w w') : OwnR t w' B v ps := by
  refine ⟨h.1, ?_⟩
  rcases h.2 with h' | ⟨g, c, cur, h1, h2, h3, h4⟩
  · exact Or.inl h'
  · refine Or.inr ⟨g, c, cur, h1, h2, ?_, h4⟩
    have hg : g < w.heap.size := by
      rcases Nat.lt_or_ge g w.heap.size with h' | h'
      · exact h'
      · rw [Array.getElem?_eq_none h'] at h3; cases h3
    exact (hb.block g hg).trans h3
theorem OwnR.caps {t : TypeId} {w : World} {B n c : Nat} {a : Option Addr} {ps : List Pf} (h : OwnR t w B (.slice a n c) ps) : n = ps.length ∧ ps.length ≤ c ∧ c ≤ 9223372036854775807 ∧ (a = none → c = 0) := by
  rcases h.2 with ⟨hv, hn⟩ | ⟨g, c', cur, hv, _, _, h1, h2, _⟩
  · simp at hv; obtain ⟨rfl, rfl, rfl⟩ := hv; exact ⟨hn.symm, by omega, by omega, fun _ => rfl⟩
  · simp at hv
    obtain ⟨rfl, rfl, rfl⟩ := hv
    exact ⟨rfl, h1, by unfold maxLen at h2; omega, fun h => by cases h⟩

/-- An append to a row of one's own, of none or of some. -/
theorem app_gen {P : Program} (w : World) (B : Nat) (t tx ty e : TypeId) (i : TypeInfo) (z : Value) (ht : P.underlying t = some (.slice e)) (hi : P.info? e = some i) (hz0 : i.zero = some z) (hzc : z.cells.size = i.size) (hzb : i.bytes ≤ 1000)
    (a : Option Addr) (n cap m : Nat) (xs ns : List Value) (x : Value) (hown : w.ownsRow B e i.size (.slice a n cap) n xs) (hs : Src P i.size tx x m ns w) (hl : n + m ≤ 1000000000) (hB : B ≤ w.heap.size) :
    ∃ a' c' w', (Builtin.append_ #[t, tx] ty #[.slice a n cap, x]).run P w = .ok (.slice a' (n + m) c') w' ∧ w'.ownsRow B e i.size (.slice a' (n + m) c') (n + m) (xs ++ ns) ∧ w.grownBy w' (Value.slice a n cap).ownBlock ∧ (a' = a ∨ a' = some ⟨w.heap.size, 0, none⟩) := by
  have hxl := hown.1
  have hnl := hs.newsLen
  have hfit : ∀ c, c < n + m → Builtin.nextslicecap (n + m) c * i.bytes ≤ 281474976710656 := fun c hc => growslice_fits hc (Nat.le_trans (Nat.mul_le_mul_left (n + m) hzb) (by omega))
  rcases hown.2 with ⟨hv, hn0⟩ | ⟨g, cap', cur, hv, hbg, hg, hnc, hcm, hcs, htake⟩
  · simp at hv
    obtain ⟨rfl, rfl, rfl⟩ := hv
    have hx0 : xs = [] := List.eq_nil_of_length_eq_zero (by rw [hxl]; omega)
    subst hx0
    rcases Nat.eq_zero_or_pos m with rfl | hm
    · have hn0 : ns = [] := List.eq_nil_of_length_eq_zero (by rw [hnl]; omega)
      subst hn0
      refine ⟨none, 0, w, ?_, ⟨by simp, Or.inl ⟨rfl, rfl⟩⟩, ⟨rfl, rfl, rfl, Nat.le_refl _, fun k _ _ => rfl⟩, Or.inl rfl⟩
      rcases hs.kind with ⟨e', hk⟩ | hk <;> simp [Builtin.append_, run_underlying ht, run_underlying hk, sizeOf, typeInfo, hi, hs.len, hs.cells]
    · have hr := run_append_grow_src (P := P) w t tx ty e i z ht hi hz0 none 0 0 [] (run_firstCells_none w.drew _ 0 0 0) x m ns hs (by omega) (by omega) (hfit 0 (by omega))
      have hge := grownCap_ge w (0 + m) 0 e
      have hcm' := grownCap_le_maxLen w (0 + m) 0 e (by unfold maxLen; omega)
      refine ⟨some ⟨w.heap.size, 0, none⟩, _, _, hr, ⟨by simp [hnl], .inr ⟨w.heap.size, _, _, rfl, hB, heap_alloc_new w.drew _, hge, hcm', ?_, ?_⟩⟩, ⟨rfl, rfl, rfl, by simp, fun k hk _ => Below.heap_alloc w.drew _ k hk⟩, Or.inr rfl⟩
      · simp [size_zeroCells, hzc, hnl]
        rw [← Nat.add_mul]; congr 1; rw [Nat.zero_add] at hge; omega
      · have e2 : (0 + m) * i.size = ([] ++ ns).length := by simp [hnl]
        rw [Array.toList_append, e2]
        exact List.take_left
  · simp at hv
    obtain ⟨rfl, rfl⟩ := hv
    by_cases hroom : n + m ≤ cap
    · have hmul : (n + m) * i.size ≤ cap * i.size := Nat.mul_le_mul_right _ hroom
      have hst := run_storeCells_at P g (n * i.size) e ns 0 cur w hg (by rw [hcs, hnl, Nat.add_zero, ← Nat.add_mul]; exact hmul) hs.one
      simp only [Nat.add_zero] at hst
      have hr : (Builtin.append_ #[t, tx] ty #[.slice (some ⟨g, 0, none⟩) n cap, x]).run P w = .ok (.slice (some ⟨g, 0, none⟩) (n + m) cap) (w.setRow g (cur.toList.take (n * i.size) ++ ns ++ cur.toList.drop (n * i.size + ns.length)).toArray) := by
        rcases hs.kind with ⟨e', hk⟩ | hk <;> simp [Builtin.append_, run_underlying ht, run_underlying hk, sizeOf, typeInfo, hi, hs.len, hroom, hs.cells, Addr.add_lit, hst]
      refine ⟨some ⟨g, 0, none⟩, cap, _, hr, ⟨by rw [List.length_append, hxl, hnl, Nat.add_mul], .inr ⟨g, cap, _, rfl, hbg, setRow_heap w g cur _ e _ hg, hroom, hcm, ?_, ?_⟩⟩, ⟨rfl, rfl, rfl, by simp, fun k _ hk => setRow_other w g k _ (fun e => hk (by rw [e]; rfl))⟩, Or.inl rfl⟩
      · simp only [List.size_toArray, List.length_append, List.length_take, List.length_drop, Array.length_toList, hcs, hnl]
        rw [Nat.add_mul] at hmul
        omega
      · rw [htake, show (n + m) * i.size = (xs ++ ns).length by rw [List.length_append, hxl, hnl, Nat.add_mul]]
        exact List.take_left
    · have holds := hown.cells (g := g) rfl
      have hold : (Builtin.firstCells i.size n (.slice (some ⟨g, 0, none⟩) n cap)).run P w.drew = .ok xs.toArray w.drew :=
        run_firstCells_some w.drew i.size n ⟨g, 0, none⟩ n cap _ hxl (by simpa using holds)
      have hr := run_append_grow_src (P := P) w t tx ty e i z ht hi hz0 (some ⟨g, 0, none⟩) n cap xs hold x m ns hs (by omega) (by omega) (hfit cap (by omega))
      have hge := grownCap_ge w (n + m) cap e
      have hcm' := grownCap_le_maxLen w (n + m) cap e (by unfold maxLen; omega)
      refine ⟨some ⟨w.heap.size, 0, none⟩, _, _, hr, ⟨by rw [List.length_append, hxl, hnl, Nat.add_mul], .inr ⟨w.heap.size, _, _, rfl, hB, heap_alloc_new w.drew _, hge, hcm', ?_, ?_⟩⟩, ⟨rfl, rfl, rfl, by simp, fun k hk _ => Below.heap_alloc w.drew _ k hk⟩, Or.inr rfl⟩
      · simp only [Array.size_append, List.size_toArray, List.length_append, size_zeroCells, hzc, hxl, hnl]
        rw [← Nat.add_mul, ← Nat.add_mul]; congr 1; omega
      · have e2 : (n + m) * i.size = (xs ++ ns).length := by rw [List.length_append, hxl, hnl, Nat.add_mul]
        rw [Array.toList_append, e2]
        exact List.take_left

/-- Rows of four cells: the type's facts. -/
def Four (P : Program) (t e : TypeId) : Prop := P.underlying t = some (.slice e) ∧ (P.info? e).map (fun i => (i.zero, i.size, i.bytes)) = some (some (.agg #[.bool false, .int .i64 0, .int .i64 0, .int .i64 0]), 4, 32)

theorem app_row {P : Program} {t e : TypeId} (h4 : Four P t e) (w : World) (B : Nat) (tx ty : TypeId) (a : Option Addr) (n cap m : Nat) (ps qs : List Pf) (x : Value) (hn : n = ps.length) (hm : m = qs.length)
    (hown : OwnR e w B (.slice a n cap) ps) (hs : Src P 4 tx x m (flat qs) w) (hl : n + m ≤ 1000000000) (hB : B ≤ w.heap.size) :
    ∃ a' c' w', (Builtin.append_ #[t, tx] ty #[.slice a n cap, x]).run P w = .ok (.slice a' (n + m) c') w' ∧ OwnR e w' B (.slice a' (n + m) c') (ps ++ qs) ∧ w.grownBy w' (Value.slice a n cap).ownBlock ∧ (a' = a ∨ a' = some ⟨w.heap.size, 0, none⟩) := by
  obtain ⟨ht, h4⟩ := h4
  obtain ⟨i, hi, hz0, hz1, hz2⟩ := info_parts h4
  subst hn
  subst hm
  obtain ⟨a', c', w', h1, h2, h3⟩ := app_gen (P := P) w B t tx ty e i _ ht hi hz0 (by rw [hz1]; rfl) (by omega) a ps.length cap qs.length (flat ps) (flat qs) x (by rw [hz1]; exact hown) (by rw [hz1]; exact hs) hl hB
  refine ⟨a', c', w', h1, ?_, h3⟩
  unfold OwnR
  rw [List.length_append, flat_app]
  rw [hz1] at h2
  exact h2

theorem wp_appR {P : Program} {t e : TypeId} (h4 : Four P t e) {o : Oper} {a : Act} {K : Act → World → Prop} {Q : Exit → Act → World → Prop} (w : World) (s x : Operand) (tx : TypeId)
    (ho : o.op = .call { callee := .builtin .append, args := #[s, x], argTypes := #[t, tx] })
    (B : Nat) (ad : Option Addr) (n cap m : Nat) (ps qs : List Pf) (xv : Value) (hsv : a.eval s = .slice ad n cap) (hn : n = ps.length) (hm : m = qs.length) (hown : OwnR e w B (.slice ad n cap) ps)
    (hx : a.eval x = xv) (hs : Src P 4 tx xv m (flat qs) w) (hl : n + m ≤ 1000000000) (hB : B ≤ w.heap.size)
    (h : ∀ a' c' w', OwnR e w' B (.slice a' (n + m) c') (ps ++ qs) → w.grownBy w' (Value.slice ad n cap).ownBlock → (a' = ad ∨ a' = some ⟨w.heap.size, 0, none⟩) → K (a.put o.dst (.slice a' (n + m) c')) w') : o.wp P a w K Q := by
  obtain ⟨b, c, w', hr, h2, h3, h5⟩ := app_row h4 w B tx o.type ad n cap m ps qs xv hn hm hown hs hl hB
  unfold Oper.wp execOp
  simp only [ho, resolve, invoke, builtin, Sem.run_bind, Sem.run_pure, Result.andThen_ok, List.map_toArray, List.map_cons, List.map_nil, hsv, hx, hr]
  exact h b c w' h2 h3 h5

theorem wpList_appR {P : Program} {t e : TypeId} (h4 : Four P t e) {ops : Array Oper} {rest : List Oper} {o : Oper} {a : Act} {Q : Exit → Act → World → Prop} (w : World) (hgd : o.guard = none) (s x : Operand) (tx : TypeId)
    (ho : o.op = .call { callee := .builtin .append, args := #[s, x], argTypes := #[t, tx] })
    (B : Nat) (ad : Option Addr) (n cap m : Nat) (ps qs : List Pf) (xv : Value) (hsv : a.eval s = .slice ad n cap) (hn : n = ps.length) (hm : m = qs.length) (hown : OwnR e w B (.slice ad n cap) ps)
    (hx : a.eval x = xv) (hs : Src P 4 tx xv m (flat qs) w) (hl : n + m ≤ 1000000000) (hB : B ≤ w.heap.size)
    (h : ∀ a' c' w', OwnR e w' B (.slice a' (n + m) c') (ps ++ qs) → w.grownBy w' (Value.slice ad n cap).ownBlock → (a' = ad ∨ a' = some ⟨w.heap.size, 0, none⟩) → wpList P ops Q rest (a.put o.dst (.slice a' (n + m) c')) w') : wpList P ops Q (o :: rest) a w :=
  wpList_plain hgd fun _ hK => wp_appR h4 w s x tx ho B ad n cap m ps qs xv hsv hn hm hown hx hs hl hB fun b c w' h2 h3 h5 => hK _ _ (h b c w' h2 h3 h5)

theorem step_appR {P : Program} {t e : TypeId} (h4 : Four P t e) {ops : Array Oper} {o : Oper} {a : Act} {K : Act → World → Prop} {Q : Exit → Act → World → Prop} {E : Prop} (w : World) (hgd : o.guard = none) (s x : Operand) (tx : TypeId)
    (ho : o.op = .call { callee := .builtin .append, args := #[s, x], argTypes := #[t, tx] })
    (B : Nat) (ad : Option Addr) (n cap m : Nat) (ps qs : List Pf) (xv : Value) (hsv : a.eval s = .slice ad n cap) (hn : n = ps.length) (hm : m = qs.length) (hown : OwnR e w B (.slice ad n cap) ps)
    (hx : a.eval x = xv) (hs : Src P 4 tx xv m (flat qs) w) (hl : n + m ≤ 1000000000) (hB : B ≤ w.heap.size)
    (h : ∀ a' c' w', OwnR e w' B (.slice a' (n + m) c') (ps ++ qs) → w.grownBy w' (Value.slice ad n cap).ownBlock → (a' = ad ∨ a' = some ⟨w.heap.size, 0, none⟩) → K (a.put o.dst (.slice a' (n + m) c')) w') :
    if Region.wanted o (yielded ops a.tmps) = true then Oper.wp P o a w K Q else E := by
  have hw : Region.wanted o (yielded ops a.tmps) = true := by simp [Region.wanted, hgd]
  rw [if_pos hw]
  exact wp_appR h4 w s x tx ho B ad n cap m ps qs xv hsv hn hm hown hx hs hl hB h

/-- What an append leaves of the older world. -/
theorem below_appR {w w1 w2 : World} {B n cap : Nat} {t : TypeId} {a : Option Addr} {ps : List Pf} (hb : Below B w w1) (ho : OwnR t w1 B (.slice a n cap) ps) (hB : B ≤ w1.heap.size) (hg : w1.grownBy w2 (Value.slice a n cap).ownBlock) : Below B w w2 :=
  hb.grown hg hB (fun k hk => (World.ownsRow.lt ho k hk).1)

/-- A row as a source. -/
theorem src_row {P : Program} {t e : TypeId} (h4 : Four P t e) {w : World} {a : Option Addr} {ps : List Pf} (n c : Nat) (hn : n = ps.length) (h : Row w a ps) (hc : a = none → c = 0) : Src P 4 t (.slice a n c) n (flat ps) w := by
  subst hn
  cases a with
  | none =>
    have : ps = [] := by
      cases ps with
      | nil => rfl
      | cons z t => obtain ⟨p, o, z', e, _⟩ := h 0 (by simp); cases e
    subst this
    rw [hc rfl]
    exact Src.ofNil (P := P) w h4.1 0
  | some ad =>
    refine Src.ofSlice (P := P) w h4.1 ad ps.length c _ (flat_len ps) (fun j u hu => ?_) (flat_one ps)
    have hj : j < ps.length * 4 := by rcases Nat.lt_or_ge j (flat ps).length with h1 | h1; rw [flat_len] at h1; exact h1; rw [List.getElem?_eq_none h1] at hu; cases hu
    obtain ⟨p, o, q, e, hp, hq, c0, c1, c2, c3⟩ := h (j / 4) (by omega)
    cases e
    obtain ⟨f0, f1, f2, f3⟩ := flat_at ps (j / 4) q hq
    have ea : (⟨p, o, none⟩ : Addr).add j = ⟨p, o + j, none⟩ := by unfold Addr.add; split <;> simp_all
    rw [ea]
    have hm : j = j / 4 * 4 ∨ j = j / 4 * 4 + 1 ∨ j = j / 4 * 4 + 2 ∨ j = j / 4 * 4 + 3 := by omega
    rcases hm with hm | hm | hm | hm
    · rw [hm] at hu; rw [f0] at hu; cases hu; rw [hm]; exact c0
    · rw [hm] at hu; rw [f1] at hu; cases hu; rw [hm]; exact c1
    · rw [hm] at hu; rw [f2] at hu; cases hu; rw [hm]; exact c2
    · rw [hm] at hu; rw [f3] at hu; cases hu; rw [hm]; exact c3
theorem own_one (w : World) (B : Nat) (t : TypeId) (q : Pf) (hB : B ≤ w.heap.size) : OwnR t (w.alloc (.cells #[.bool q.s, .int .i64 q.H.toInt, .int .i64 q.L.toInt, .int .i64 q.b] t)) B (.slice (some ⟨w.heap.size, 0, none⟩) 1 1) [q] :=
  ⟨rfl, Or.inr ⟨w.heap.size, 1, _, rfl, hB, heap_alloc_new w _, Nat.le_refl _, by unfold maxLen; omega, rfl, rfl⟩⟩
theorem row_one (w : World) (t : TypeId) (q : Pf) : Row (w.alloc (.cells #[.bool q.s, .int .i64 q.H.toInt, .int .i64 q.L.toInt, .int .i64 q.b] t)) (some ⟨w.heap.size, 0, none⟩) [q] := (own_one w 0 t q (Nat.zero_le _)).row
theorem own_none (w : World) (B : Nat) (t : TypeId) : OwnR t w B (.slice none 0 0) [] := ⟨rfl, Or.inl ⟨rfl, rfl⟩⟩
theorem own_zero (w : World) (B : Nat) (t : TypeId) (hB : B ≤ w.heap.size) : OwnR t (w.alloc (.cells #[] t)) B (.slice (some ⟨w.heap.size, 0, none⟩) 0 0) [] :=
  ⟨rfl, Or.inr ⟨w.heap.size, 0, _, rfl, hB, heap_alloc_new w _, Nat.le_refl _, by unfold maxLen; omega, rfl, rfl⟩⟩

end Go.Proofs.Ytamaanbnlnpjcaa
