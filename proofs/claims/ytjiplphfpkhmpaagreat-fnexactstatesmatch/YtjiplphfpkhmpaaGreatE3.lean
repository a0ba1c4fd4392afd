/-
  Functions that copy a struct, field by field.
-/
import Derived.Test.YtjiplphfpkhmpaaGreatE2
namespace Go.Proofs.YtjiplphfpkhmpaaGreat
open Go.RowKit

/-- Nothing. -/
def cNil : Cd Unit where
  k := 0
  rep := fun _ _ vs _ => vs = []
  tot := fun _ => 0
  len := fun h => by rw [h]; rfl
  one := fun h => by rw [h]; intro u hu; cases hu
  frm := fun h _ => h
  low := fun h _ => h
  nn := fun _ => Int.le_refl _

/-- So much of a struct is copied. -/
structure StT {α : Type} (w : World) (us zs : List Value) (A : Cd α) (x : α) (N off : Nat) (cs : List Value) (a : Act) (W : World) : Prop where
  sl : SlT a N w.heap.size (w.heap.size + 1) (w.heap.size + 2)
  b0 : Box W w.heap.size us
  b1 : Box W (w.heap.size + 1) zs
  bl : Below w.heap.size w W
  ex : ∃ az : List Value, az.length = off ∧ Box W (w.heap.size + 2) (az ++ cs) ∧ A.rep W (w.heap.size + 3) az x
theorem StT.sz {α : Type} {w : World} {us zs cs : List Value} {A : Cd α} {x : α} {N off : Nat} {a : Act} {W : World} (h : StT w us zs A x N off cs a W) : w.heap.size + 3 ≤ W.heap.size := by
  obtain ⟨az, _, hb, _⟩ := h.ex
  exact hb.lt

section
variable {P : Program} {a : Act} {W : World} {Q : Exit → Act → World → Prop} {y : Code} {t0 t1 t2 t3 t4 : TypeId} {s0 s1 s2 s3 s4 : String} {f0 f1 f2 f3 f4 : Array Edge} {id id' : Nat} {α : Type} {A : Cd α} {x : α} {w : World} {us zs : List Value} {N off : Nat}

theorem st_head {tA tO : TypeId} {z v : Value} {fn : Func} (hx : v.cells = us.toArray) (hN : fn.ntmps = N) (h3 : 3 < N) (hz : (P.info? tO).map (·.zero) = some (some z)) (hc : z.cells = zs.toArray)
    (k : ∀ a' V, StT w us zs cNil () N 0 zs a' V → y.wp P Q a' V) :
    Code.wp P ((Code.region id #[⟨some 1, .box tA (.tmp 0), t0, s0, f0, none⟩, ⟨some 2, .alloc tO, t1, s1, f1, none⟩] false).seq ((Code.region id' #[⟨some 3, .alloc tO, t2, s2, f2, none⟩] false).seq y)) Q ⟨#[v] ++ Array.replicate (fn.ntmps - (#[v] : Array Value).size) undef, []⟩ w := by
  have e : (⟨#[v] ++ Array.replicate (fn.ntmps - (#[v] : Array Value).size) undef, []⟩ : Act).eval (.tmp 0) = v := by
    show (#[v] ++ _ : Array Value).getD 0 undef = v
    rw [Array.getD_eq_getD_getElem?, Array.getElem?_append_left (by show 0 < 1; omega)]
    rfl
  have e2 : (⟨#[v] ++ Array.replicate (fn.ntmps - (#[v] : Array Value).size) undef, []⟩ : Act).tmps.size = N := by
    rw [Array.size_append, Array.size_replicate]
    show 1 + (fn.ntmps - 1) = N
    omega
  exact reg_head (N := N) (by rw [e]; exact hx) h3 e2 rfl hz hc fun a' V hs b0 b1 b2 bl _ => k a' V ⟨hs, b0, b1, bl, [], rfl, b2, rfl⟩

theorem st_copy {tA tO tx : TypeId} {d0 d1 d2 i : Nat} {bs cs : List Value} (h : StT w us zs A x N off (bs ++ cs) a W) (hd : 3 < d0 ∧ d0 < d1 ∧ d1 < d2 ∧ d2 < N) (hA : fldB P tA i off = true) (hO : fldB P tO i off = true) (ht : Sca P tx)
    {β : Type} (T : Cd β) (b : β)
    {pre post vs : List Value} (hr : T.rep w 0 vs b) (hfl : ∀ V B, T.rep V B vs b) (hk : T.k = 1) (hu : us = pre ++ (vs ++ post)) (hp : pre.length = off) (hl : bs.length = 1)
    (k : ∀ a' V, StT w us zs (cTwo A T) (x, b) N (off + 1) cs a' V → y.wp P Q a' V) :
    Code.wp P ((Code.region id #[⟨some d0, .fieldAddr tA (.tmp 1) i, t0, s0, f0, none⟩, ⟨some d1, .load tx (.tmp d0), t1, s1, f1, none⟩, ⟨some d2, .fieldAddr tO (.tmp 3) i, t2, s2, f2, none⟩, ⟨none, .store tx (.tmp d2) (.tmp d1), t3, s3, f3, none⟩] false).seq y) Q a W := by
  obtain ⟨az, ha, hb, hacc⟩ := h.ex
  have hn := (T.len hr).trans hk
  have h1 := T.one hr
  obtain ⟨v, rfl⟩ : ∃ v, vs = [v] := by
    cases vs with
    | nil => cases hn
    | cons v t =>
      cases t with
      | nil => exact ⟨v, rfl⟩
      | cons _ _ => simp at hn
  have hz := h.sz
  subst hu
  refine reg_copy h.sl hd hA hO ht v (Box.seg h.b0 hp).one (h1 v (List.mem_singleton.2 rfl)) hb ha hl ?_
  intro a' V hs hb' hg hsz
  refine k a' V ⟨hs, h.b0.other hg (by omega), h.b1.other hg (by omega), h.bl.grown hg h.bl.size (fun q hq => by have := Option.some.inj hq; omega), az ++ [v], by rw [List.length_append, ha]; rfl, by rw [List.append_assoc]; exact hb', az, [v], rfl, A.frm hacc (Fr.row hg (by omega)), hfl V _⟩

theorem st_call {tA tO tx tz : TypeId} {ats : Array TypeId} {f : FuncId} {d0 d1 d2 d3 i n : Nat} {bs cs : List Value} (h : StT w us zs A x N off (bs ++ cs) a W) (hd : 3 < d0 ∧ d0 < d1 ∧ d1 < d2 ∧ d2 < d3 ∧ d3 < N) (hA : fldB P tA i off = true) (hO : fldB P tO i off = true)
    {β : Type} (T : Cd β) (b : β) (v : List Value → Value) (hk : T.k = n) (hv : (v = vA ∧ Agg P tx n) ∨ (v = v1 ∧ Sca P tx ∧ n = 1)) (hf : Fn P f) (hC : ToC P T v f) (hz : (P.info? tz).map (·.size) = some n)
    {pre post vs : List Value} (hr : T.rep w 0 vs b) (hx : T.tot b ≤ 1048576) (hu : us = pre ++ (vs ++ post)) (hp : pre.length = off) (hl : bs.length = n)
    (k : ∀ a' V, StT w us zs (cTwo A T) (x, b) N (off + n) cs a' V → y.wp P Q a' V) :
    Code.wp P ((Code.region id #[⟨some d0, .fieldAddr tA (.tmp 1) i, t0, s0, f0, none⟩, ⟨some d1, .load tx (.tmp d0), t1, s1, f1, none⟩, ⟨some d2, .call { callee := .value (.func f), args := #[.tmp d1], argTypes := ats }, t2, s2, f2, none⟩, ⟨some d3, .fieldAddr tO (.tmp 3) i, t3, s3, f3, none⟩, ⟨none, .store tz (.tmp d3) (.tmp d2), t4, s4, f4, none⟩] false).seq y) Q a W := by
  obtain ⟨az, ha, hb, hacc⟩ := h.ex
  have hn := (T.len hr).trans hk
  have h3 := h.sz
  subst hu
  have hseg := Box.seg h.b0 hp
  have hcell : ∀ us : List Value, us.length = n → One us → (v us).cells = us.toArray := by
    intro us hl h1
    rcases hv with ⟨rfl, _⟩ | ⟨rfl, _, rfl⟩
    · rfl
    · cases us with
      | nil => cases hl
      | cons u t =>
        have : t = [] := List.length_eq_zero_iff.1 (by simpa using hl)
        subst this
        have hu := h1 u (List.mem_singleton.2 rfl)
        show u.cells = _
        cases u <;> first | rfl | cases hu
  refine reg_call h.sl hd hA hO T v hk hcell hf hC hz vs b (T.frm hr (Fr.of h.bl)) hx ?_ hb ha hl ?_
  · intro _
    rcases hv with ⟨rfl, hag⟩ | ⟨rfl, hsc, h1⟩
    · rw [← hn] at hag
      exact run_loadE W hag hseg
    · subst h1
      cases vs with
      | nil => cases hn
      | cons u t =>
        have : t = [] := List.length_eq_zero_iff.1 (by simpa using hn)
        subst this
        exact run_loadS W hsc hseg.one
  intro a' V V' ws hs hbl hrw hbox hg hsz
  have h5 := hbl.size
  refine k a' V' ⟨hs, (h.b0.later hbl).other hg (by omega), (h.b1.later hbl).other hg (by omega), ?_, az ++ ws, by rw [List.length_append, ha, T.len hrw, hk], by rw [List.append_assoc]; exact hbox, az, ws, rfl, A.frm (A.lat hacc hbl) (Fr.row hg (by omega)), T.low (T.frm hrw (Fr.row hg (by omega))) h3⟩
  have hb5 := h.bl.trans (hbl.mono h.bl.size)
  exact hb5.grown hg hb5.size (fun q hq => by have := Option.some.inj hq; omega)

theorem st_tail {tO : TypeId} {fn : Func} {R : Ending → World → Prop} {d0 n : Nat} (h : StT w us zs A x N off [] a W) (hd : 3 < d0 ∧ d0 < N) (hA : Agg P tO n) (hn : A.k = n) (hzl : zs.length = n) (hres : fn.results = #[.cell 2 tO])
    (k : ∀ vs V, A.rep V w.heap.size vs x → Below w.heap.size w V → R (.returned (vA vs)) V) :
    Code.wp P ((Code.region id #[⟨some d0, .load tO (.tmp 3), t0, s0, f0, none⟩, ⟨none, .store tO (.tmp 2) (.tmp d0), t1, s1, f1, none⟩] false).seq Code.ret) (bodyPost P fn R) a W := by
  obtain ⟨az, ha, hb, hacc⟩ := h.ex
  have hz := h.sz
  rw [List.append_nil] at hb
  refine reg_tail h.sl hd hA ((A.len hacc).trans hn) (A.one hacc) hzl hb h.b1 hres ?_
  intro V hg hsz
  exact k az V (A.low (A.frm hacc (Fr.row hg (by omega))) (by omega)) (h.bl.grown hg h.bl.size (fun q hq => by have := Option.some.inj hq; omega))
end

end Go.Proofs.YtjiplphfpkhmpaaGreat
