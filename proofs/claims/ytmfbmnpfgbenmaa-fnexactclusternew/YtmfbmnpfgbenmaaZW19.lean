/-
  Things that own their memory: every row lies in a block of its own. What it is to be marked.
-/
import Derived.Test.YtmfbmnpfgbenmaaZW18
namespace Go.Proofs.Ytmfbmnpfgbenmaa
open Go.RowKit

/-- Nothing has changed but blocks of F. -/
structure Chg (F : Nat → Prop) (W V : World) : Prop where
  os : V.os = W.os
  tape : V.tape = W.tape
  output : V.output = W.output
  size : W.heap.size ≤ V.heap.size
  block : ∀ q, q < W.heap.size → ¬ F q → V.heap[q]? = W.heap[q]?
theorem Chg.refl (F : Nat → Prop) (W : World) : Chg F W W := ⟨rfl, rfl, rfl, Nat.le_refl _, fun _ _ _ => rfl⟩
theorem Chg.trans {F : Nat → Prop} {W V U : World} (h : Chg F W V) (g : Chg F V U) : Chg F W U :=
  ⟨g.os.trans h.os, g.tape.trans h.tape, g.output.trans h.output, Nat.le_trans h.size g.size, fun q hq hn => (g.block q (Nat.lt_of_lt_of_le hq h.size) hn).trans (h.block q hq hn)⟩
theorem Chg.mono {F G : Nat → Prop} {W V : World} (h : Chg F W V) (hs : ∀ q, F q → G q) : Chg G W V := ⟨h.os, h.tape, h.output, h.size, fun q hq hn => h.block q hq (fun hf => hn (hs q hf))⟩
theorem Chg.of {F : Nat → Prop} {W V : World} (h : Below W.heap.size W V) : Chg F W V := ⟨h.os, h.tape, h.output, h.size, fun q hq _ => h.block q hq⟩
theorem Chg.row {p : Nat} {W V : World} (h : W.grownBy V (some p)) : Chg (fun q => q = p) W V := ⟨h.os, h.tape, h.output, h.size, fun q hq hn => h.block q hq (fun e => hn (Option.some.inj e))⟩
theorem Chg.below {F : Nat → Prop} {B : Nat} {W V : World} (h : Chg F W V) (hB : B ≤ W.heap.size) (hF : ∀ q, F q → B ≤ q) : Below B W V :=
  ⟨h.os, h.tape, h.output, h.size, fun q hq => h.block q (Nat.lt_of_lt_of_le hq hB) (fun hf => by have := hF q hf; omega)⟩
theorem Box.chg {F : Nat → Prop} {W V : World} {p : Nat} {us : List Value} (h : Box W p us) (c : Chg F W V) (hp : ¬ F p) : Box V p us := by
  have hl := h.lt
  obtain ⟨t, h⟩ := h
  exact ⟨t, (c.block p hl hp).trans h⟩

/-- A kind that owns its memory: which blocks it may use; how many marks stand in it within a row (cntF), by value (cntV), and that it bears them from k on. -/
structure Mw (α : Type) where
  cd : Cd α
  own : World → (Nat → Prop) → List Value → α → Prop
  rep : ∀ {W F B vs x}, own W F vs x → (∀ q, F q → B ≤ q) → cd.rep W B vs x
  frm : ∀ {W V F vs x}, own W F vs x → W.heap.size ≤ V.heap.size → (∀ q, F q → q < W.heap.size → V.heap[q]? = W.heap[q]?) → own V F vs x
  wid : ∀ {W F G vs x}, own W F vs x → (∀ q, F q → G q) → own W G vs x
  trim : ∀ {W F vs x}, own W F vs x → own W (fun q => F q ∧ q < W.heap.size) vs x
  cntF : α → Nat
  ful : α → Int → Prop
  cntV : α → Nat
  byv : α → Int → Prop
theorem Mw.chg {α : Type} (T : Mw α) {W V : World} {F G : Nat → Prop} {vs : List Value} {x : α} (h : T.own W F vs x) (c : Chg G W V) (d : ∀ q, F q → ¬ G q) : T.own V F vs x := T.frm h c.size (fun q hf hq => c.block q hq (d q hf))
theorem Mw.lat {α : Type} (T : Mw α) {W V : World} {F : Nat → Prop} {vs : List Value} {x : α} (h : T.own W F vs x) (c : Below W.heap.size W V) : T.own V F vs x := T.frm h c.size (fun q _ hq => c.block q hq)
theorem Mw.rep0 {α : Type} (T : Mw α) {W : World} {F : Nat → Prop} {vs : List Value} {x : α} (h : T.own W F vs x) : T.cd.rep W 0 vs x := T.rep h (fun _ _ => Nat.zero_le _)
theorem Mw.len {α : Type} (T : Mw α) {W : World} {F : Nat → Prop} {vs : List Value} {x : α} (h : T.own W F vs x) : vs.length = T.cd.k := T.cd.len (T.rep0 h)
theorem Mw.one {α : Type} (T : Mw α) {W : World} {F : Nat → Prop} {vs : List Value} {x : α} (h : T.own W F vs x) : One vs := T.cd.one (T.rep0 h)

/-- Of no block. -/
def mLeaf {α : Type} (c : Cd α) (hf : ∀ {W B V C vs x}, c.rep W B vs x → c.rep V C vs x) (n : α → Nat) (f : α → Int → Prop) : Mw α where
  cd := c
  own := fun W _ vs x => c.rep W 0 vs x
  rep := fun h _ => hf h
  frm := fun h _ _ => hf h
  wid := fun h _ => h
  trim := fun h => h
  cntF := n
  ful := f
  cntV := fun _ => 0
  byv := fun _ _ => True
abbrev mInt : Mw Int := mLeaf cInt (fun h => h) (fun _ => 1) (fun x k => x = k)
abbrev mByte : Mw Int := mLeaf cByte (fun h => h) (fun _ => 1) (fun x k => x = IntKind.u8.wrap k)
abbrev mBool : Mw Bool := mLeaf cBool (fun h => h) (fun _ => 1) (fun x k => x = decide (k % 3 = 0))
abbrev mArr (n : Nat) : Mw (List Int) := mLeaf (cArr n) (fun h => h) (fun _ => n) (fun xs k => ∀ (j : Nat) (x : Int), xs[j]? = some x → x = k + j)
abbrev mNil : Mw Unit := mLeaf cNil (fun h => h) (fun _ => 0) (fun _ _ => True)
/-- Two that share no block. -/
def mTwo {α β : Type} (S : Mw α) (T : Mw β) : Mw (α × β) where
  cd := cTwo S.cd T.cd
  own := fun W F vs x => ∃ us ws F1 F2, vs = us ++ ws ∧ (∀ q, F1 q → F q) ∧ (∀ q, F2 q → F q) ∧ (∀ q, F1 q → ¬ F2 q) ∧ S.own W F1 us x.1 ∧ T.own W F2 ws x.2
  rep := fun ⟨us, ws, _, _, e, s1, s2, _, h, g⟩ hB => ⟨us, ws, e, S.rep h (fun q hq => hB q (s1 q hq)), T.rep g (fun q hq => hB q (s2 q hq))⟩
  frm := fun ⟨us, ws, F1, F2, e, s1, s2, d, h, g⟩ hz hf => ⟨us, ws, F1, F2, e, s1, s2, d, S.frm h hz (fun q hq => hf q (s1 q hq)), T.frm g hz (fun q hq => hf q (s2 q hq))⟩
  wid := fun ⟨us, ws, F1, F2, e, s1, s2, d, h, g⟩ hw => ⟨us, ws, F1, F2, e, fun q hq => hw q (s1 q hq), fun q hq => hw q (s2 q hq), d, h, g⟩
  trim := fun {W _ _ _} ⟨us, ws, F1, F2, e, s1, s2, d, h, g⟩ => ⟨us, ws, (fun q => F1 q ∧ q < W.heap.size), (fun q => F2 q ∧ q < W.heap.size), e, fun q hq => ⟨s1 q hq.1, hq.2⟩, fun q hq => ⟨s2 q hq.1, hq.2⟩, fun q h1 h2 => d q h1.1 h2.1, S.trim h, T.trim g⟩
  cntF := fun x => S.cntF x.1 + T.cntF x.2
  ful := fun x k => S.ful x.1 k ∧ T.ful x.2 (k + S.cntF x.1)
  cntV := fun x => S.cntV x.1 + T.cntV x.2
  byv := fun x k => S.byv x.1 k ∧ T.byv x.2 (k + S.cntV x.1)
/-- How many the first i have. -/
def psum {α : Type} (f : α → Nat) : List α → Nat → Nat
  | [], _ => 0
  | _ :: _, 0 => 0
  | x :: t, i + 1 => f x + psum f t i
theorem psum_0 {α : Type} (f : α → Nat) (xs : List α) : psum f xs 0 = 0 := by cases xs <;> rfl
theorem psum_next {α : Type} {f : α → Nat} : ∀ {xs : List α} {i : Nat} {x : α}, xs[i]? = some x → psum f xs (i + 1) = psum f xs i + f x
  | [], _, _, h => by simp at h
  | y :: t, 0, x, h => by
      obtain rfl : y = x := by simpa using h
      show f y + psum f t 0 = 0 + f y
      rw [psum_0]
      omega
  | y :: t, i + 1, x, h => by
      have := psum_next (f := f) (xs := t) (i := i) (x := x) (by simpa using h)
      show f y + psum f t (i + 1) = f y + psum f t i + f x
      omega
theorem psum_le {α : Type} {f : α → Nat} : ∀ (xs : List α) (i : Nat), psum f xs i ≤ psum f xs xs.length
  | [], _ => Nat.le_refl _
  | _ :: _, 0 => Nat.zero_le _
  | y :: t, i + 1 => by
      have := psum_le (f := f) t i
      show f y + psum f t i ≤ f y + psum f t t.length
      omega
theorem psum_eq {α : Type} {f : α → Nat} : ∀ {xs ys : List α} (_ : xs.length = ys.length) (_ : ∀ (j : Nat) (x y : α), xs[j]? = some x → ys[j]? = some y → f x = f y) (i : Nat), psum f xs i = psum f ys i
  | [], [], _, _, _ => rfl
  | [], _ :: _, h, _, _ => by simp at h
  | _ :: _, [], h, _, _ => by simp at h
  | x :: t, y :: u, _, _, 0 => rfl
  | x :: t, y :: u, h, g, i + 1 => by
      have h1 := g 0 x y rfl rfl
      have h2 := psum_eq (f := f) (xs := t) (ys := u) (by simpa using h) (fun j a b ha hb => g (j + 1) a b (by simpa using ha) (by simpa using hb)) i
      show f x + psum f t i = f y + psum f u i
      omega
/-- Rows in memory of their own: a block, and each element's. -/
def RowO {α : Type} (T : Mw α) (W : World) (F : Nat → Prop) (vs : List Value) (xs : List α) : Prop :=
  ∃ (p o c : Nat) (az zs : List Value) (uss : List (List Value)) (G : Nat → Nat → Prop), vs = [.slice (some ⟨p, o, none⟩) xs.length c] ∧ xs.length ≤ 4611686018427387904 ∧ F p ∧ az.length = o ∧ uss.length = xs.length ∧ Box W p (az ++ (uss.flatten ++ zs)) ∧
    (∀ (j : Nat) (us : List Value) (x : α), uss[j]? = some us → xs[j]? = some x → T.own W (G j) us x) ∧ (∀ j q, G j q → F q ∧ q ≠ p) ∧ (∀ i j q, G i q → G j q → i = j)
def mRow {α : Type} (T : Mw α) : Mw (List α) where
  cd := cRow T.cd
  own := fun W F vs xs => (xs = [] ∧ ∃ a c, vs = [.slice a 0 c]) ∨ RowO T W F vs xs
  rep := fun {_ _ _ _ xs} h hB => by
    rcases h with ⟨rfl, a, c, rfl⟩ | ⟨p, o, c, az, zs, uss, G, rfl, hl, hp, ho, hu, hb, he, hg, _⟩
    · exact ⟨a, c, rfl, by simp, fun j x hx => by simp at hx⟩
    · refine ⟨_, c, rfl, by omega, fun j x hx => ?_⟩
      have hj := (List.getElem?_eq_some_iff.1 hx).1
      have hu' : uss[j]? = some uss[j] := List.getElem?_eq_getElem (by omega)
      have hT := he j _ x hu' hx
      refine ⟨p, o, uss[j], rfl, hB p hp, hb.lt, ?_, T.rep hT (fun q hq => hB q (hg j q hq).1)⟩
      have hlen : ∀ us ∈ uss.take j, us.length = T.cd.k := fun us hm => by
        obtain ⟨m, hm'⟩ := List.mem_iff_getElem?.1 (List.mem_of_mem_take hm)
        have hml := (List.getElem?_eq_some_iff.1 hm').1
        exact T.len (he m us xs[m] hm' (List.getElem?_eq_getElem (by omega)))
      rw [fl_at hu', List.append_assoc, List.append_assoc, ← List.append_assoc] at hb
      refine Box.seg hb ?_
      rw [List.length_append, fl_len hlen, List.length_take, ho]
      congr 2
      omega
  frm := fun h hz hf => by
    rcases h with h | ⟨p, o, c, az, zs, uss, G, e, hl, hp, ho, hu, hb, he, hg, hd⟩
    · exact .inl h
    · refine .inr ⟨p, o, c, az, zs, uss, G, e, hl, hp, ho, hu, ?_, fun j us x h1 h2 => T.frm (he j us x h1 h2) hz (fun q hq => hf q (hg j q hq).1), hg, hd⟩
      have hlt := hb.lt
      obtain ⟨t, hb⟩ := hb
      exact ⟨t, (hf p hp hlt).trans hb⟩
  wid := fun h hw => by
    rcases h with h | ⟨p, o, c, az, zs, uss, G, e, hl, hp, ho, hu, hb, he, hg, hd⟩
    · exact .inl h
    · exact .inr ⟨p, o, c, az, zs, uss, G, e, hl, hw p hp, ho, hu, hb, he, fun j q hq => ⟨hw q (hg j q hq).1, (hg j q hq).2⟩, hd⟩
  trim := fun {W _ _ _} h => by
    rcases h with h | ⟨p, o, c, az, zs, uss, G, e, hl, hp, ho, hu, hb, he, hg, hd⟩
    · exact .inl h
    · exact .inr ⟨p, o, c, az, zs, uss, (fun j q => G j q ∧ q < W.heap.size), e, hl, ⟨hp, hb.lt⟩, ho, hu, hb, fun j us x h1 h2 => T.trim (he j us x h1 h2), fun j q hq => ⟨⟨(hg j q hq.1).1, hq.2⟩, (hg j q hq.1).2⟩, fun i j q h1 h2 => hd i j q h1.1 h2.1⟩
  cntF := fun xs => psum T.cntF xs xs.length
  ful := fun xs k => ∀ (j : Nat) (x : α), xs[j]? = some x → T.ful x (k + psum T.cntF xs j)
  cntV := fun xs => psum T.cntF xs xs.length
  byv := fun xs k => ∀ (j : Nat) (x : α), xs[j]? = some x → T.ful x (k + psum T.cntF xs j)
/-- Rows that are known to be empty. -/
def mNo {α : Type} (c : Cd α) : Mw (List α) where
  cd := cRow c
  own := fun _ _ vs xs => xs = [] ∧ ∃ a c, vs = [.slice a 0 c]
  rep := fun ⟨e, a, c, h⟩ _ => by subst e h; exact ⟨a, c, rfl, by simp, fun j x hx => by simp at hx⟩
  frm := fun h _ _ => h
  wid := fun h _ => h
  trim := fun h => h
  cntF := fun _ => 0
  ful := fun xs _ => xs = []
  cntV := fun _ => 0
  byv := fun xs _ => xs = []

/-- Marking: by value. -/
def MkF {α : Type} (P : Program) (T : Mw α) (v : List Value → Value) (f : Nat) : Prop := ∀ (us : List Value) (x : α) (W : World) (F : Nat → Prop) (k : Int), T.own W F us x → 1 ≤ k → k + T.cntV x ≤ 4611686018427387904 →
  Calls P f #[v us, .int .i64 k] W fun e V => e = .returned (.int .i64 (k + T.cntV x)) ∧ Chg F W V ∧ ∃ x', T.own V F us x' ∧ T.byv x' k ∧ T.cntV x' = T.cntV x
/-- Looking for marks. -/
def HdF {α : Type} (P : Program) (T : Mw α) (v : List Value → Value) (f : Nat) : Prop := ∀ (us : List Value) (x : α) (W : World) (k : Int), T.cd.rep W 0 us x → T.byv x k → 1 ≤ k → k + T.cntV x ≤ 4611686018427387904 →
  Calls P f #[v us, .int .i64 k] W fun e V => e = .returned (.int .i64 (k + T.cntV x)) ∧ Below W.heap.size W V

/-- What stands in the slots in a round. -/
structure Sl (N ci i : Nat) (o : Option Addr) (n c : Nat) (k : Int) (a : Act) : Prop where
  hi : a.eval (.tmp ci) = .int .i64 i
  s : a.eval (.tmp 0) = .slice o n c
  hk : a.eval (.tmp 1) = .int .i64 k
  df : a.defers = []
  sz : a.tmps.size = N
theorem Sl.put {N ci i n c t : Nat} {o : Option Addr} {k : Int} {a : Act} (S : Sl N ci i o n c k a) (h1 : 1 < ci) (h : ci < t) (v : Value) : Sl N ci i o n c k (a.put (some t) v) :=
  ⟨(put_ne (by omega)).trans S.hi, (put_ne (by omega)).trans S.s, (put_ne (by omega)).trans S.hk, put_df.trans S.df, put_sz.trans S.sz⟩
theorem Sl.set {N ci i n c : Nat} {o : Option Addr} {k : Int} {a : Act} (S : Sl N ci i o n c k a) (h1 : 1 < ci) (h2 : ci < N) (k' : Int) : Sl N ci i o n c k' (a.put (some 1) (.int .i64 k')) :=
  ⟨(put_ne (by omega)).trans S.hi, (put_ne (by omega)).trans S.s, put_eq (by rw [S.sz]; omega), put_df.trans S.df, put_sz.trans S.sz⟩

/-- So much of an element is marked. -/
structure Me {α : Type} (A : Mw α) (w : World) (F : Nat → Prop) (p : Nat) (pre todo : List Value) (x : α) (k0 : Int) (W : World) : Prop where
  ex : ∃ done x', done.length = A.cd.k ∧ Box W p (pre ++ (done ++ todo)) ∧ A.own W F done x' ∧ A.ful x' k0 ∧ A.cntF x' = A.cntF x
  chg : Chg (fun q => q = p ∨ F q) w W
theorem Me.start {p : Nat} {pre todo : List Value} {k0 : Int} {W : World} (h : Box W p (pre ++ todo)) : Me mNil W (fun _ => False) p pre todo () k0 W :=
  ⟨⟨[], (), rfl, h, rfl, trivial, rfl⟩, Chg.refl _ _⟩
/-- One cell more. -/
theorem Me.cell {α β : Type} {A : Mw α} {T : Mw β} {w W V : World} {F : Nat → Prop} {p : Nat} {pre todo : List Value} {x x' : α} {k0 : Int} {b b' : β} {done vs' : List Value} (h1 : done.length = A.cd.k) (h3 : A.own W F done x') (h4 : A.ful x' k0) (h5 : A.cntF x' = A.cntF x) (c : Chg (fun q => q = p ∨ F q) w W) (np : ¬ F p)
    (hT : ∀ F, T.own V F vs' b') (hl : T.cd.k = vs'.length) (hf : T.ful b' (k0 + A.cntF x)) (hc : T.cntF b' = T.cntF b) (hg : Chg (fun q => q = p) W V) (hb : Box V p (pre ++ (done ++ (vs' ++ todo)))) : Me (mTwo A T) w F p pre todo (x, b) k0 V := by
  refine ⟨⟨done ++ vs', (x', b'), ?_, ?_, ⟨done, vs', F, fun _ => False, rfl, fun _ h => h, fun _ h => h.elim, fun _ _ h => h, A.chg h3 hg (fun q hq e => np (by subst e; exact hq)), hT _⟩, ⟨h4, by rw [h5]; exact hf⟩, ?_⟩, c.trans (hg.mono fun q h => .inl h)⟩
  · show (done ++ vs').length = A.cd.k + T.cd.k
    rw [List.length_append, h1, hl]
  · rw [List.append_assoc]; exact hb
  · show A.cntF x' + T.cntF b' = A.cntF x + T.cntF b
    rw [h5, hc]
/-- A part more. -/
theorem Me.part {α β : Type} {A : Mw α} {T : Mw β} {w W V : World} {F F1 F2 : Nat → Prop} {p : Nat} {pre todo : List Value} {x : α} {k0 : Int} {b b' : β} {vs : List Value} (M : Me A w F1 p pre (vs ++ todo) x k0 W) (np : ¬ F p) (s1 : ∀ q, F1 q → F q) (s2 : ∀ q, F2 q → F q) (d : ∀ q, F1 q → ¬ F2 q)
    (hT : T.own V F2 vs b') (hf : T.ful b' (k0 + A.cntF x)) (hc : T.cntF b' = T.cntF b) (hg : Chg F2 W V) : Me (mTwo A T) w F p pre todo (x, b) k0 V := by
  obtain ⟨done, x', h1, h2, h3, h4, h5⟩ := M.ex
  refine ⟨⟨done ++ vs, (x', b'), ?_, ?_, ⟨done, vs, F1, F2, rfl, s1, s2, d, A.chg h3 hg d, hT⟩, ⟨h4, by rw [h5]; exact hf⟩, ?_⟩, (M.chg.mono fun q h => h.imp id (s1 q)).trans (hg.mono fun q h => .inr (s2 q h))⟩
  · show (done ++ vs).length = A.cd.k + T.cd.k
    rw [List.length_append, h1, T.len hT]
  · rw [List.append_assoc]; exact h2.chg hg (fun h => np (s2 p h))
  · show A.cntF x' + T.cntF b' = A.cntF x + T.cntF b
    rw [h5, hc]
/-- What is not yet marked stands az it did. -/
theorem Me.todo {α β : Type} {A : Mw α} {T : Mw β} {w W : World} {F F1 F2 : Nat → Prop} {p : Nat} {pre todo vs : List Value} {x : α} {k0 : Int} {b : β} (M : Me A w F1 p pre todo x k0 W) (h : T.own w F2 vs b) (np : ¬ F p) (s2 : ∀ q, F2 q → F q) (d : ∀ q, F1 q → ¬ F2 q) : T.own W F2 vs b :=
  T.chg h M.chg (fun q hq e => e.elim (fun e => np (by subst e; exact s2 _ hq)) (fun e => d q e hq))
/-- Into a struct, and out of it. -/
theorem Me.enter {α β : Type} {A : Mw α} {T : Mw β} {w W : World} {F F1 F2 : Nat → Prop} {p : Nat} {pre todo us : List Value} {x : α} {k0 : Int} {b : β} (M : Me A w F1 p pre (us ++ todo) x k0 W) (h : T.own w F2 us b) (np : ¬ F p) (s1 : ∀ q, F1 q → F q) (s2 : ∀ q, F2 q → F q) (d : ∀ q, F1 q → ¬ F2 q) :
    ∃ pre', pre'.length = pre.length + A.cd.k ∧ Me mNil W (fun _ => False) p pre' (us ++ todo) () (k0 + A.cntF x) W ∧ T.own W F2 us b ∧ ∀ V, Me T W F2 p pre' todo b (k0 + A.cntF x) V → Me (mTwo A T) w F p pre todo (x, b) k0 V := by
  obtain ⟨done, x', h1, h2, h3, h4, h5⟩ := M.ex
  refine ⟨pre ++ done, by rw [List.length_append, h1], Me.start (by rw [List.append_assoc]; exact h2), M.todo h np s2 d, fun V m => ?_⟩
  obtain ⟨us', b', g1, g2, g3, g4, g5⟩ := m.ex
  have hn : ∀ q, F1 q → ¬ (q = p ∨ F2 q) := fun q hq e => e.elim (fun e => np (by subst e; exact s1 _ hq)) (d q hq)
  refine ⟨⟨done ++ us', (x', b'), ?_, ?_, ⟨done, us', F1, F2, rfl, s1, s2, d, A.chg h3 m.chg hn, g3⟩, ⟨h4, by rw [h5]; exact g4⟩, ?_⟩, (M.chg.mono fun q h => h.imp id (s1 q)).trans (m.chg.mono fun q h => h.imp id (s2 q))⟩
  · show (done ++ us').length = A.cd.k + T.cd.k
    rw [List.length_append, h1, g1]
  · rw [List.append_assoc] at g2 ⊢; exact g2
  · show A.cntF x' + T.cntF b' = A.cntF x + T.cntF b
    rw [h5, g5]

end Go.Proofs.Ytmfbmnpfgbenmaa
