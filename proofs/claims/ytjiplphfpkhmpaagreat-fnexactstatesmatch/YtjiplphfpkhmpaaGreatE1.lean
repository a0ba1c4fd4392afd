/-
  Kinds of things: what cells stand for one, which blocks it uses, how long it is.
-/
import Derived.Test.YtjiplphfpkhmpaaGreatE0
namespace Go.Proofs.YtjiplphfpkhmpaaGreat
open Go.RowKit

/-- A kind: k cells; what they stand for, by blocks from B on; how much it holds. -/
structure Cd (α : Type) where
  k : Nat
  rep : World → Nat → List Value → α → Prop
  tot : α → Int
  len : ∀ {W B vs x}, rep W B vs x → vs.length = k
  one : ∀ {W B vs x}, rep W B vs x → One vs
  frm : ∀ {W V B vs x}, rep W B vs x → Fr B W V → rep V B vs x
  low : ∀ {W B C vs x}, rep W B vs x → C ≤ B → rep W C vs x
  nn : ∀ x, 0 ≤ tot x
theorem Cd.lat {α : Type} (T : Cd α) {W V : World} {B : Nat} {vs : List Value} {x : α} (h : T.rep W B vs x) (b : Below W.heap.size W V) : T.rep V B vs x := T.frm h (Fr.of b)
theorem one1 {v : Value} (h : v.oneCell' = true) : One [v] := fun u hu => by rw [List.mem_singleton.1 hu]; exact h
theorem one_app {us vs : List Value} (h : One us) (g : One vs) : One (us ++ vs) := fun u hu => (List.mem_append.1 hu).elim (h u) (g u)
/-- Of one cell. -/
def cVal {α : Type} (f : α → Value) (h : ∀ x, (f x).oneCell' = true) : Cd α where
  k := 1
  rep := fun _ _ vs x => vs = [f x]
  tot := fun _ => 0
  len := fun h => by rw [h]; rfl
  one := fun e => by rw [e]; exact one1 (h _)
  frm := fun h _ => h
  low := fun h _ => h
  nn := fun _ => Int.le_refl _
abbrev cInt : Cd Int := cVal (fun x => .int .i64 x) (fun _ => rfl)
abbrev cBool : Cd Bool := cVal (fun x => .bool x) (fun _ => rfl)
def cByte : Cd Int where
  k := 1
  rep := fun _ _ vs x => vs = [.int .u8 x] ∧ 0 ≤ x ∧ x ≤ 255
  tot := fun _ => 0
  len := fun h => by rw [h.1]; rfl
  one := fun e => by rw [e.1]; exact one1 rfl
  frm := fun h _ => h
  low := fun h _ => h
  nn := fun _ => Int.le_refl _
def cStr : Cd ByteArray where
  k := 1
  rep := fun _ _ vs x => vs = [.string x] ∧ x.size ≤ 9223372036854775807
  tot := fun x => x.size
  len := fun h => by rw [h.1]; rfl
  one := fun e => by rw [e.1]; exact one1 rfl
  frm := fun h _ => h
  low := fun h _ => h
  nn := fun _ => Int.natCast_nonneg _
/-- Two behind one another. -/
def cTwo {α β : Type} (S : Cd α) (T : Cd β) : Cd (α × β) where
  k := S.k + T.k
  rep := fun W B vs x => ∃ us ws, vs = us ++ ws ∧ S.rep W B us x.1 ∧ T.rep W B ws x.2
  tot := fun x => S.tot x.1 + T.tot x.2
  len := fun ⟨us, ws, e, h, g⟩ => by rw [e, List.length_append, S.len h, T.len g]
  one := fun ⟨us, ws, e, h, g⟩ => by rw [e]; exact one_app (S.one h) (T.one g)
  frm := fun ⟨us, ws, e, h, g⟩ f => ⟨us, ws, e, S.frm h f, T.frm g f⟩
  low := fun ⟨us, ws, e, h, g⟩ f => ⟨us, ws, e, S.low h f, T.low g f⟩
  nn := fun x => Int.add_nonneg (S.nn _) (T.nn _)
def sumT {α : Type} (f : α → Int) : List α → Int
  | [] => 0
  | x :: t => f x + sumT f t
theorem sumT_nn {α : Type} {f : α → Int} (h : ∀ x, 0 ≤ f x) : ∀ xs : List α, 0 ≤ sumT f xs
  | [] => Int.le_refl _
  | x :: t => Int.add_nonneg (h x) (sumT_nn h t)
theorem sumT_mem {α : Type} {f : α → Int} (h : ∀ x, 0 ≤ f x) {x : α} : ∀ {xs : List α}, x ∈ xs → f x ≤ sumT f xs
  | y :: t, hm => by
      have h0 := sumT_nn h t
      show f x ≤ f y + sumT f t
      rcases List.mem_cons.1 hm with rfl | hm
      · omega
      · have := sumT_mem h hm
        have := h y
        omega
/-- A row's element. -/
def At {α : Type} (T : Cd α) (W : World) (B : Nat) (a : Option Addr) (j : Nat) (x : α) : Prop := ∃ p o us, a = some ⟨p, o, none⟩ ∧ B ≤ p ∧ p < W.heap.size ∧ Seg W p (o + j * T.k) us ∧ T.rep W B us x
theorem At.frm {α : Type} {T : Cd α} {W V : World} {B : Nat} {a : Option Addr} {j : Nat} {x : α} (h : At T W B a j x) (f : Fr B W V) : At T V B a j x := by
  obtain ⟨p, o, us, e, hb, hp, hs, hr⟩ := h
  exact ⟨p, o, us, e, hb, Nat.lt_of_lt_of_le hp f.size, hs.frm f hb hp, T.frm hr f⟩
/-- A row of them. -/
def cRow {α : Type} (T : Cd α) : Cd (List α) where
  k := 1
  rep := fun W B vs xs => ∃ a c, vs = [.slice a xs.length c] ∧ xs.length ≤ 9223372036854775807 ∧ ∀ j x, xs[j]? = some x → At T W B a j x
  tot := fun xs => xs.length + sumT T.tot xs
  len := fun ⟨a, c, e, _⟩ => by rw [e]; rfl
  one := fun ⟨a, c, e, _⟩ => by rw [e]; exact one1 rfl
  frm := fun ⟨a, c, e, hl, h⟩ f => ⟨a, c, e, hl, fun j x hx => (h j x hx).frm f⟩
  low := fun ⟨a, c, e, hl, h⟩ f => ⟨a, c, e, hl, fun j x hx => by
    obtain ⟨p, o, us, e, hb, hp, hs, hr⟩ := h j x hx
    exact ⟨p, o, us, e, by omega, hp, hs, T.low hr f⟩⟩
  nn := fun xs => Int.add_nonneg (Int.natCast_nonneg _) (sumT_nn T.nn xs)
/-- Numbers behind one another. -/
def cArr (n : Nat) : Cd (List Int) where
  k := n
  rep := fun _ _ vs xs => vs = xs.map (fun x => .int .i64 x) ∧ xs.length = n
  tot := fun _ => 0
  len := fun ⟨e, h⟩ => by rw [e, List.length_map, h]
  one := fun ⟨e, _⟩ => by
    rw [e]
    intro u hu
    obtain ⟨x, _, rfl⟩ := List.mem_map.1 hu
    rfl
  frm := fun h _ => h
  low := fun h _ => h
  nn := fun _ => Int.le_refl _

/-- What is left of L behind N. -/
def szL (L N : Int) : Int := if N ≤ L then L - N else -1
theorem szL_yes {L N : Int} (h : N ≤ L) : szL L N = L - N := if_pos h
theorem szL_no {L N : Int} (h : ¬ N ≤ L) : szL L N = -1 := if_neg h
theorem szL_step {L n m : Int} (hm : 0 ≤ m) : szL L (n + m) = if n ≤ L then szL (L - n) m else -1 := by
  unfold szL
  split <;> split <;> (try split) <;> omega

/-- How large one is. -/
def SzC {α : Type} (P : Program) (T : Cd α) (v : List Value → Value) (f : Nat) : Prop := ∀ (vs : List Value) (x : α) (W : World) (L : Int), T.rep W 0 vs x → 0 ≤ L → L ≤ 1048576 →
  Calls P f #[v vs, .int .i64 L] W fun e w' => e = .returned (.int .i64 (szL L (T.tot x))) ∧ Below W.heap.size W w'
/-- A copy of one. -/
def ToC {α : Type} (P : Program) (T : Cd α) (v : List Value → Value) (f : Nat) : Prop := ∀ (vs : List Value) (x : α) (W : World), T.rep W 0 vs x → T.tot x ≤ 1048576 →
  Calls P f #[v vs] W fun e w' => ∃ us, e = .returned (v us) ∧ T.rep w' W.heap.size us x ∧ Below W.heap.size W w'
/-- Two of them. -/
def EqC {α : Type} (P : Program) (T : Cd α) (v : List Value → Value) (f : Nat) : Prop := ∀ (us vs : List Value) (x : α) (W : World), T.rep W 0 us x → T.rep W 0 vs x → T.tot x ≤ 1048576 →
  Calls P f #[v us, v vs] W fun e w' => e = .returned (.bool true) ∧ Below W.heap.size W w'
/-- How cells stand in a slot: a struct's, one cell's. -/
def vA (vs : List Value) : Value := .agg vs.toArray
def v1 (vs : List Value) : Value := vs.headD undef

end Go.Proofs.YtjiplphfpkhmpaaGreat
