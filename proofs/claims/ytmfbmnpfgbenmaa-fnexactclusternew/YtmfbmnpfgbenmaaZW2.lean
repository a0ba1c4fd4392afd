/-
  Rows of things of k cells each, whatever they are: how they lie in memory, what an append to one of the call's own makes, what a store into one makes.
-/
import Derived.Test.YtmfbmnpfgbenmaaZW1
namespace Go.Proofs.Ytmfbmnpfgbenmaa
open Go.RowKit

/-- A kind of things: its cells. -/
structure Kd (α : Type) where
  k : Nat
  cs : α → List Value
  len : ∀ x, (cs x).length = k
  one : ∀ x, ∀ u ∈ cs x, u.oneCell' = true

def gflat {α : Type} (K : Kd α) : List α → List Value
  | [] => []
  | p :: t => K.cs p ++ gflat K t
theorem gflat_len {α : Type} (K : Kd α) : ∀ ps : List α, (gflat K ps).length = ps.length * K.k
  | [] => by simp [gflat]
  | p :: t => by simp [gflat, gflat_len K t, K.len, Nat.add_mul]; omega
theorem gflat_app {α : Type} (K : Kd α) : ∀ ps qs : List α, gflat K (ps ++ qs) = gflat K ps ++ gflat K qs
  | [], _ => rfl
  | p :: t, qs => by simp [gflat, gflat_app K t qs]
theorem gflat_one {α : Type} (K : Kd α) : ∀ ps : List α, ∀ u ∈ gflat K ps, u.oneCell' = true
  | [], u, h => by cases h
  | p :: t, u, h => by
      rcases List.mem_append.1 h with h | h
      · exact K.one p u h
      · exact gflat_one K t u h
theorem gflat_at {α : Type} (K : Kd α) : ∀ (ps : List α) (j : Nat) (q : α), ps[j]? = some q → ∀ i, i < K.k → (gflat K ps)[j * K.k + i]? = (K.cs q)[i]?
  | [], j, q, h, i, hi => by simp at h
  | p :: t, 0, q, h, i, hi => by
      simp at h; subst h
      show (K.cs p ++ gflat K t)[0 * K.k + i]? = _
      rw [Nat.zero_mul, Nat.zero_add, List.getElem?_append_left (by rw [K.len]; exact hi)]
  | p :: t, j + 1, q, h, i, hi => by
      have := gflat_at K t j q (by simpa using h) i hi
      show (K.cs p ++ gflat K t)[(j + 1) * K.k + i]? = _
      rw [List.getElem?_append_right (by rw [K.len, Nat.add_mul]; omega), ← this]
      congr 1
      rw [K.len, Nat.add_mul]; omega

/-- What is read of a row. -/
def RowG {α : Type} (K : Kd α) (w : World) (a : Option Addr) (ps : List α) : Prop := ∀ j, j < ps.length → ∃ p o q, a = some ⟨p, o, none⟩ ∧ p < w.heap.size ∧ ps[j]? = some q ∧ ∀ i v, (K.cs q)[i]? = some v → w.cell? ⟨p, o + j * K.k + i, none⟩ = some v
/-- A row of one's own. -/
def OwnG {α : Type} (K : Kd α) (t : TypeId) (w : World) (B : Nat) (v : Value) (ps : List α) : Prop := w.ownsRow B t K.k v ps.length (gflat K ps)

theorem RowG.later {α : Type} {K : Kd α} {w w' : World} {a : Option Addr} {ps : List α} (h : RowG K w a ps) (hb : Below w.heap.size w w') : RowG K w' a ps := fun j hj => by
  obtain ⟨p, o, q, ha, hp, hq, c⟩ := h j hj
  exact ⟨p, o, q, ha, Nat.lt_of_lt_of_le hp hb.size, hq, fun i v hv => (hb.cell hp).trans (c i v hv)⟩
theorem RowG.nil {α : Type} (K : Kd α) (w : World) (a : Option Addr) : RowG K w a [] := fun j hj => absurd hj (Nat.not_lt_zero j)
theorem OwnG.row {α : Type} {K : Kd α} {t : TypeId} {w : World} {B n cap : Nat} {a : Option Addr} {ps : List α} (h : OwnG K t w B (.slice a n cap) ps) : RowG K w a ps := fun j hj => by
  rcases h.2 with ⟨hv, hn⟩ | ⟨g, c, cur, hv, _, hg, _⟩
  · omega
  · simp at hv
    obtain ⟨rfl, rfl, rfl⟩ := hv
    have hq : ps[j]? = some ps[j] := List.getElem?_eq_getElem hj
    refine ⟨g, 0, ps[j], rfl, ?_, hq, fun i v hv => ?_⟩
    · rcases Nat.lt_or_ge g w.heap.size with h' | h'
      · exact h'
      · rw [Array.getElem?_eq_none h'] at hg; cases hg
    · have hi : i < K.k := by
        rcases Nat.lt_or_ge i (K.cs ps[j]).length with h1 | h1
        · rw [K.len] at h1; exact h1
        · rw [List.getElem?_eq_none h1] at hv; cases hv
      have h2 : j * K.k + i < ps.length * K.k := by
        have : (j + 1) * K.k ≤ ps.length * K.k := Nat.mul_le_mul_right _ hj
        rw [Nat.add_mul] at this; omega
      have := World.ownsRow.cellAt h (j * K.k + i) h2
      rw [Nat.zero_add, this, gflat_at K ps j _ hq i hi, hv]
theorem OwnG.lt {α : Type} {K : Kd α} {t : TypeId} {w : World} {B : Nat} {v : Value} {ps : List α} (h : OwnG K t w B v ps) : ∀ k, v.ownBlock = some k → B ≤ k ∧ k < w.heap.size := World.ownsRow.lt h
theorem OwnG.alloc {α : Type} {K : Kd α} {t : TypeId} {w : World} {B : Nat} {v : Value} {ps : List α} (h : OwnG K t w B v ps) (o : Obj) : OwnG K t (w.alloc o) B v ps := World.ownsRow.alloc h o
theorem OwnG.mono {α : Type} {K : Kd α} {t : TypeId} {w : World} {B B' : Nat} {v : Value} {ps : List α} (h : OwnG K t w B v ps) (hb : B' ≤ B) : OwnG K t w B' v ps := by
  refine ⟨h.1, ?_⟩
  rcases h.2 with h' | ⟨g, c, cur, h1, h2, h3⟩
  · exact Or.inl h'
  · exact Or.inr ⟨g, c, cur, h1, Nat.le_trans hb h2, h3⟩
theorem OwnG.later {α : Type} {K : Kd α} {t : TypeId} {w w' : World} {B : Nat} {v : Value} {ps : List α} (h : OwnG K t w B v ps) (hb : Below w.heap.size w w') : OwnG K t w' B v ps := by
  refine ⟨h.1, ?_⟩
  rcases h.2 with h' | ⟨g, c, cur, h1, h2, h3, h4⟩
  · exact Or.inl h'
  · refine Or.inr ⟨g, c, cur, h1, h2, ?_, h4⟩
    have hg : g < w.heap.size := by
      rcases Nat.lt_or_ge g w.heap.size with h' | h'
      · exact h'
      · rw [Array.getElem?_eq_none h'] at h3; cases h3
    exact (hb.block g hg).trans h3
/-- A row of one's own stands where another block turns. -/
theorem OwnG.grown {α : Type} {K : Kd α} {t : TypeId} {w w' : World} {B : Nat} {v : Value} {ps : List α} {b : Option Nat} (h : OwnG K t w B v ps) (hg : w.grownBy w' b) (hn : ∀ k, v.ownBlock = some k → b ≠ some k) : OwnG K t w' B v ps := by
  refine ⟨h.1, ?_⟩
  rcases h.2 with h' | ⟨g, c, cur, h1, h2, h3, h4⟩
  · exact Or.inl h'
  · refine Or.inr ⟨g, c, cur, h1, h2, ?_, h4⟩
    have hgl : g < w.heap.size := by
      rcases Nat.lt_or_ge g w.heap.size with h' | h'
      · exact h'
      · rw [Array.getElem?_eq_none h'] at h3; cases h3
    have := hg.block g hgl (fun e => hn g (by rw [h1]; rfl) e.symm)
    exact this.trans h3
theorem OwnG.caps {α : Type} {K : Kd α} {t : TypeId} {w : World} {B n c : Nat} {a : Option Addr} {ps : List α} (h : OwnG K t w B (.slice a n c) ps) : n = ps.length ∧ ps.length ≤ c ∧ c ≤ 9223372036854775807 ∧ (a = none → c = 0) := by
  rcases h.2 with ⟨hv, hn⟩ | ⟨g, c', cur, hv, _, _, h1, h2, _⟩
  · simp at hv; obtain ⟨rfl, rfl, rfl⟩ := hv; exact ⟨hn.symm, by omega, by omega, fun _ => rfl⟩
  · simp at hv
    obtain ⟨rfl, rfl, rfl⟩ := hv
    exact ⟨rfl, h1, by unfold maxLen at h2; omega, fun h => by cases h⟩

/-- The type's facts of such rows. -/
def GTy {α : Type} (K : Kd α) (z : Value) (bytes : Nat) (P : Program) (t e : TypeId) : Prop := P.underlying t = some (.slice e) ∧ (P.info? e).map (fun i => (i.zero, i.size, i.bytes)) = some (some z, K.k, bytes) ∧ z.cells.size = K.k ∧ bytes ≤ 1000

theorem app_rowG {α : Type} {K : Kd α} {z : Value} {bytes : Nat} {P : Program} {t e : TypeId} (h4 : GTy K z bytes P t e) (w : World) (B : Nat) (tx ty : TypeId) (a : Option Addr) (n cap m : Nat) (ps qs : List α) (x : Value) (hn : n = ps.length) (hm : m = qs.length)
    (hown : OwnG K e w B (.slice a n cap) ps) (hs : Src P K.k tx x m (gflat K qs) w) (hl : n + m ≤ 1000000000) (hB : B ≤ w.heap.size) :
    ∃ a' c' w', (Builtin.append_ #[t, tx] ty #[.slice a n cap, x]).run P w = .ok (.slice a' (n + m) c') w' ∧ OwnG K e w' B (.slice a' (n + m) c') (ps ++ qs) ∧ w.grownBy w' (Value.slice a n cap).ownBlock ∧ (a' = a ∨ a' = some ⟨w.heap.size, 0, none⟩) := by
  obtain ⟨ht, h4, h5, h6⟩ := h4
  obtain ⟨i, hi, hz0, hz1, hz2⟩ := info_parts h4
  subst hn
  subst hm
  obtain ⟨a', c', w', h1, h2, h3⟩ := app_gen (P := P) w B t tx ty e i _ ht hi hz0 (by rw [hz1]; exact h5) (by omega) a ps.length cap qs.length (gflat K ps) (gflat K qs) x (by rw [hz1]; exact hown) (by rw [hz1]; exact hs) hl hB
  refine ⟨a', c', w', h1, ?_, h3⟩
  unfold OwnG
  rw [List.length_append, gflat_app]
  rw [hz1] at h2
  exact h2

theorem wp_appG {α : Type} {K : Kd α} {z : Value} {bytes : Nat} {P : Program} {t e : TypeId} (h4 : GTy K z bytes P t e) {o : Oper} {a : Act} {Kx : Act → World → Prop} {Q : Exit → Act → World → Prop} (w : World) (s x : Operand) (tx : TypeId)
    (ho : o.op = .call { callee := .builtin .append, args := #[s, x], argTypes := #[t, tx] })
    (B : Nat) (ad : Option Addr) (n cap m : Nat) (ps qs : List α) (xv : Value) (hsv : a.eval s = .slice ad n cap) (hn : n = ps.length) (hm : m = qs.length) (hown : OwnG K e w B (.slice ad n cap) ps)
    (hx : a.eval x = xv) (hs : Src P K.k tx xv m (gflat K qs) w) (hl : n + m ≤ 1000000000) (hB : B ≤ w.heap.size)
    (h : ∀ a' c' w', OwnG K e w' B (.slice a' (n + m) c') (ps ++ qs) → w.grownBy w' (Value.slice ad n cap).ownBlock → (a' = ad ∨ a' = some ⟨w.heap.size, 0, none⟩) → Kx (a.put o.dst (.slice a' (n + m) c')) w') : o.wp P a w Kx Q := by
  obtain ⟨b, c, w', hr, h2, h3, h5⟩ := app_rowG h4 w B tx o.type ad n cap m ps qs xv hn hm hown hs hl hB
  unfold Oper.wp execOp
  simp only [ho, resolve, invoke, builtin, Sem.run_bind, Sem.run_pure, Result.andThen_ok, List.map_toArray, List.map_cons, List.map_nil, hsv, hx, hr]
  exact h b c w' h2 h3 h5

theorem wpList_appG {α : Type} {K : Kd α} {z : Value} {bytes : Nat} {P : Program} {t e : TypeId} (h4 : GTy K z bytes P t e) {ops : Array Oper} {rest : List Oper} {o : Oper} {a : Act} {Q : Exit → Act → World → Prop} (w : World) (hgd : o.guard = none) (s x : Operand) (tx : TypeId)
    (ho : o.op = .call { callee := .builtin .append, args := #[s, x], argTypes := #[t, tx] })
    (B : Nat) (ad : Option Addr) (n cap m : Nat) (ps qs : List α) (xv : Value) (hsv : a.eval s = .slice ad n cap) (hn : n = ps.length) (hm : m = qs.length) (hown : OwnG K e w B (.slice ad n cap) ps)
    (hx : a.eval x = xv) (hs : Src P K.k tx xv m (gflat K qs) w) (hl : n + m ≤ 1000000000) (hB : B ≤ w.heap.size)
    (h : ∀ a' c' w', OwnG K e w' B (.slice a' (n + m) c') (ps ++ qs) → w.grownBy w' (Value.slice ad n cap).ownBlock → (a' = ad ∨ a' = some ⟨w.heap.size, 0, none⟩) → wpList P ops Q rest (a.put o.dst (.slice a' (n + m) c')) w') : wpList P ops Q (o :: rest) a w :=
  wpList_plain hgd fun _ hK => wp_appG h4 w s x tx ho B ad n cap m ps qs xv hsv hn hm hown hx hs hl hB fun b c w' h2 h3 h5 => hK _ _ (h b c w' h2 h3 h5)

theorem step_appG {α : Type} {K : Kd α} {z : Value} {bytes : Nat} {P : Program} {t e : TypeId} (h4 : GTy K z bytes P t e) {ops : Array Oper} {o : Oper} {a : Act} {Kx : Act → World → Prop} {Q : Exit → Act → World → Prop} {E : Prop} (w : World) (hgd : o.guard = none) (s x : Operand) (tx : TypeId)
    (ho : o.op = .call { callee := .builtin .append, args := #[s, x], argTypes := #[t, tx] })
    (B : Nat) (ad : Option Addr) (n cap m : Nat) (ps qs : List α) (xv : Value) (hsv : a.eval s = .slice ad n cap) (hn : n = ps.length) (hm : m = qs.length) (hown : OwnG K e w B (.slice ad n cap) ps)
    (hx : a.eval x = xv) (hs : Src P K.k tx xv m (gflat K qs) w) (hl : n + m ≤ 1000000000) (hB : B ≤ w.heap.size)
    (h : ∀ a' c' w', OwnG K e w' B (.slice a' (n + m) c') (ps ++ qs) → w.grownBy w' (Value.slice ad n cap).ownBlock → (a' = ad ∨ a' = some ⟨w.heap.size, 0, none⟩) → Kx (a.put o.dst (.slice a' (n + m) c')) w') :
    if Region.wanted o (yielded ops a.tmps) = true then Oper.wp P o a w Kx Q else E := by
  have hw : Region.wanted o (yielded ops a.tmps) = true := by simp [Region.wanted, hgd]
  rw [if_pos hw]
  exact wp_appG h4 w s x tx ho B ad n cap m ps qs xv hsv hn hm hown hx hs hl hB h

/-- What an append leaves of the older world. -/
theorem below_appG {α : Type} {K : Kd α} {w w1 w2 : World} {B n cap : Nat} {t : TypeId} {a : Option Addr} {ps : List α} (hb : Below B w w1) (ho : OwnG K t w1 B (.slice a n cap) ps) (hB : B ≤ w1.heap.size) (hg : w1.grownBy w2 (Value.slice a n cap).ownBlock) : Below B w w2 :=
  hb.grown hg hB (fun k hk => (World.ownsRow.lt ho k hk).1)

/-- A row as a source. -/
theorem src_rowG {α : Type} {K : Kd α} {P : Program} {t e : TypeId} (h4 : P.underlying t = some (.slice e)) {w : World} {a : Option Addr} {ps : List α} (n c : Nat) (hk : 0 < K.k) (hn : n = ps.length) (h : RowG K w a ps) (hc : a = none → c = 0) : Src P K.k t (.slice a n c) n (gflat K ps) w := by
  subst hn
  cases a with
  | none =>
    have : ps = [] := by
      cases ps with
      | nil => rfl
      | cons z t => obtain ⟨p, o, z', e, _⟩ := h 0 (by simp); cases e
    subst this
    rw [hc rfl]
    exact Src.ofNil (P := P) w h4 0
  | some ad =>
    refine Src.ofSlice (P := P) w h4 ad ps.length c _ (gflat_len K ps) (fun j u hu => ?_) (gflat_one K ps)
    have hj : j < ps.length * K.k := by rcases Nat.lt_or_ge j (gflat K ps).length with h1 | h1; rw [gflat_len] at h1; exact h1; rw [List.getElem?_eq_none h1] at hu; cases hu
    have hm : j / K.k * K.k + j % K.k = j := by rw [Nat.mul_comm]; exact Nat.div_add_mod j K.k
    have hd : j / K.k < ps.length := Nat.div_lt_of_lt_mul (by rw [Nat.mul_comm]; exact hj)
    obtain ⟨p, o, q, e, hp, hq, c⟩ := h (j / K.k) hd
    cases e
    have ea : (⟨p, o, none⟩ : Addr).add j = ⟨p, o + j, none⟩ := by unfold Addr.add; split <;> simp_all
    rw [ea]
    have f := gflat_at K ps (j / K.k) q hq (j % K.k) (Nat.mod_lt _ hk)
    rw [hm, hu] at f
    have := c (j % K.k) u f.symm
    rw [Nat.add_assoc, hm] at this
    exact this
theorem own_oneG {α : Type} (K : Kd α) (w : World) (B : Nat) (t : TypeId) (q : α) (hB : B ≤ w.heap.size) : OwnG K t (w.alloc (.cells (K.cs q).toArray t)) B (.slice (some ⟨w.heap.size, 0, none⟩) 1 1) [q] :=
  ⟨by simp [gflat, K.len], Or.inr ⟨w.heap.size, 1, _, rfl, hB, heap_alloc_new w _, Nat.le_refl _, by unfold maxLen; omega, by simp [K.len], by show List.take (1 * K.k) (K.cs q) = K.cs q ++ []; rw [List.append_nil, List.take_of_length_le (by rw [K.len]; omega)]⟩⟩
theorem own_noneG {α : Type} (K : Kd α) (w : World) (B : Nat) (t : TypeId) : OwnG K t w B (.slice none 0 0) [] := ⟨by simp [gflat], Or.inl ⟨rfl, rfl⟩⟩
theorem own_zeroG {α : Type} (K : Kd α) (w : World) (B : Nat) (t : TypeId) (hB : B ≤ w.heap.size) : OwnG K t (w.alloc (.cells #[] t)) B (.slice (some ⟨w.heap.size, 0, none⟩) 0 0) [] :=
  ⟨by simp [gflat], Or.inr ⟨w.heap.size, 0, _, rfl, hB, heap_alloc_new w _, Nat.le_refl _, by unfold maxLen; omega, by simp, by simp [gflat]⟩⟩

/-- Cells written one behind the other. -/
def puts (w : World) (g off : Nat) : List Value → World
  | [] => w
  | v :: vs => puts (w.setCell ⟨g, off, none⟩ v) g (off + 1) vs
def sets (l : List Value) (off : Nat) : List Value → List Value
  | [] => l
  | v :: vs => sets (l.set off v) (off + 1) vs
theorem sets_right (a b : List Value) : ∀ (vs : List Value) (off : Nat), sets (a ++ b) (a.length + off) vs = a ++ sets b off vs
  | [], off => rfl
  | v :: vs, off => by
      show sets ((a ++ b).set (a.length + off) v) (a.length + off + 1) vs = a ++ sets (b.set off v) (off + 1) vs
      rw [List.set_append_right _ _ (by omega), Nat.add_sub_cancel_left, Nat.add_assoc]
      have := sets_right a (b.set off v) vs (off + 1)
      exact this
theorem sets_all : ∀ (vs l t : List Value), l.length = vs.length → sets (l ++ t) 0 vs = vs ++ t
  | [], l, t, h => by
      have : l = [] := List.length_eq_zero_iff.1 h
      subst this; rfl
  | v :: vs, [], t, h => by simp at h
  | v :: vs, x :: l, t, h => by
      show sets ((x :: (l ++ t)).set 0 v) (0 + 1) vs = v :: (vs ++ t)
      rw [List.set_cons_zero]
      have := sets_right [v] (l ++ t) vs 0
      simp only [List.length_singleton, Nat.add_zero] at this
      rw [Nat.zero_add]
      show sets ([v] ++ (l ++ t)) 1 vs = _
      rw [this, sets_all vs l t (by simpa using h)]
      rfl
theorem gflat_set {α : Type} (K : Kd α) : ∀ (ps : List α) (j : Nat) (q : α), j < ps.length → sets (gflat K ps) (j * K.k) (K.cs q) = gflat K (ps.set j q)
  | [], j, q, h => by simp at h
  | p :: t, 0, q, h => by
      rw [Nat.zero_mul]
      show sets (K.cs p ++ gflat K t) 0 (K.cs q) = K.cs q ++ gflat K t
      exact sets_all _ _ _ (by rw [K.len, K.len])
  | p :: t, j + 1, q, h => by
      have ih := gflat_set K t j q (by simpa using h)
      show sets (K.cs p ++ gflat K t) ((j + 1) * K.k) (K.cs q) = K.cs p ++ gflat K (t.set j q)
      have e : (j + 1) * K.k = (K.cs p).length + j * K.k := by rw [K.len, Nat.add_mul]; omega
      rw [e, sets_right, ih]
theorem puts_own {t : TypeId} {g n cap : Nat} {B k : Nat} : ∀ (vs : List Value) (w : World) (xs : List Value) (off : Nat), w.ownsRow B t k (.slice (some ⟨g, 0, none⟩) n cap) n xs → (puts w g off vs).ownsRow B t k (.slice (some ⟨g, 0, none⟩) n cap) n (sets xs off vs)
  | [], _, _, _, h => h
  | v :: vs, _, _, off, h => puts_own vs _ _ (off + 1) (World.ownsRow.stored h off v).1

/-- One of a row is written. -/
theorem OwnG.put {α : Type} {K : Kd α} {t : TypeId} {w : World} {B g n cap : Nat} {ps : List α} (h : OwnG K t w B (.slice (some ⟨g, 0, none⟩) n cap) ps) (hn : n = ps.length) (j : Nat) (hj : j < n) (q : α) :
    OwnG K t (puts w g (j * K.k) (K.cs q)) B (.slice (some ⟨g, 0, none⟩) n cap) (ps.set j q) := by
  subst hn
  have := puts_own (K.cs q) w _ (j * K.k) h
  rw [gflat_set K ps j q hj] at this
  unfold OwnG
  rw [List.length_set]
  exact this
theorem OwnG.frozen {α : Type} {K : Kd α} {t : TypeId} {w : World} {B g n cap : Nat} {ps : List α} (h : OwnG K t w B (.slice (some ⟨g, 0, none⟩) n cap) ps) (o : Nat) : w.frozen? ⟨g, o, none⟩ = false := by
  have hn := h.caps.1
  subst hn
  exact World.ownsRow.frozenAt h o
theorem grown_cellG (w : World) (g o : Nat) (v : Value) : w.grownBy (w.setCell ⟨g, o, none⟩ v) (some g) :=
  ⟨rfl, rfl, rfl, by simp, fun k _ hk => heap_setCell_other w ⟨g, o, none⟩ k v (fun e => hk (by simp [e]))⟩
/-- A new row of noughts. -/
theorem made_gen {α : Type} (K : Kd α) (z : α) (hk : 0 < K.k) (v : Value) (hv : v.cells.toList = K.cs z) (n : Nat) : (madeCells v.cells (n * K.k)).toList = gflat K (List.replicate n z) := by
  apply List.ext_getElem?
  intro j
  by_cases hj : j < n * K.k
  · have hm : j / K.k * K.k + j % K.k = j := by rw [Nat.mul_comm]; exact Nat.div_add_mod j K.k
    have hq : (List.replicate n z)[j / K.k]? = some z := by rw [List.getElem?_replicate, if_pos (Nat.div_lt_of_lt_mul (by rw [Nat.mul_comm]; exact hj))]
    have f := gflat_at K _ (j / K.k) _ hq (j % K.k) (Nat.mod_lt _ hk)
    rw [hm] at f
    rw [f, ← hv]
    have hs : v.cells.size = K.k := by rw [← Array.length_toList, hv, K.len]
    have e : (madeCells v.cells (n * K.k)).toList[j]? = some (v.cells[j % K.k]!) := by
      rw [Array.getElem?_toList]
      unfold madeCells
      rw [Array.getElem?_map, Array.getElem?_range, if_pos hj, hs]
      rfl
    rw [e]
    have hlt : j % K.k < v.cells.size := by rw [hs]; exact Nat.mod_lt _ hk
    rw [Array.getElem?_toList, Array.getElem?_eq_getElem hlt, getElem!_pos v.cells (j % K.k) hlt]
  · rw [List.getElem?_eq_none (by rw [Array.length_toList, size_madeCells]; omega), List.getElem?_eq_none (by rw [gflat_len, List.length_replicate]; omega)]
/-- One more of the row is copied. -/
theorem copy_stepG {α : Type} (z : α) (ps : List α) (k : Nat) (q : α) (hk : k < ps.length) (hq : ps[k]? = some q) : (ps.take k ++ List.replicate (ps.length - k) z).set k q = ps.take (k + 1) ++ List.replicate (ps.length - (k + 1)) z := by
  have e : ps.length - k = ps.length - (k + 1) + 1 := by omega
  rw [e, List.replicate_succ, List.set_append_right _ _ (by rw [List.length_take]; omega)]
  have e2 : k - (ps.take k).length = 0 := by rw [List.length_take]; omega
  rw [e2, List.set_cons_zero, List.take_add_one, hq]
  simp

end Go.Proofs.Ytmfbmnpfgbenmaa
