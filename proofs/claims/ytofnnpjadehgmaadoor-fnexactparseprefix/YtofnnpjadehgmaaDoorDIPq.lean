/-
  The program's ParsePrefix at every text: the right prefix whose text it is, and true; or the zero one and false. Nothing old in memory turns.
-/
import Derived.Test.YtofnnpjadehgmaaDoorDIPp
import Derived.Test.YtofnnpjadehgmaaDoorDCut
import Derived.Test.YtofnnpjadehgmaaDoorShelfP
import Derived.Lib.SmallJoins
namespace Go.Proofs.YtofnnpjadehgmaaDoor
open Go.RowKit

/-- The package-level variables that strings.Cut and strconv.Atoi read. -/
structure ShP (w : World) : Prop where
  m : ∃ m, w.cell? ⟨0, 0, none⟩ = some (.int .i64 m)
  sy : ∃ ev, w.cell? ⟨1, 0, none⟩ = some ev ∧ (ev = .nilIface ∨ ∃ te pe, ev = .iface te pe)
  rg : ∃ ev, w.cell? ⟨2, 0, none⟩ = some ev ∧ (ev = .nilIface ∨ ∃ te pe, ev = .iface te pe)
  big : 6 ≤ w.heap.size
theorem ShP.below {x y : World} (h : ShP x) (hb : Below x.heap.size x y) : ShP y := by
  have hg := h.big
  obtain ⟨m, hm⟩ := h.m
  obtain ⟨e1, h1, k1⟩ := h.sy
  obtain ⟨e2, h2, k2⟩ := h.rg
  exact ⟨⟨m, (hb.cell (by show 0 < _; omega)).trans hm⟩, ⟨e1, (hb.cell (by show 1 < _; omega)).trans h1, k1⟩, ⟨e2, (hb.cell (by show 2 < _; omega)).trans h2, k2⟩, by have := hb.size; omega⟩
/-- What Atoi makes of a text. -/
def atO (l : List UInt8) : Option Int := match Lib.atoiAll l with
  | .ok v => some v
  | _ => none
theorem below_drewQ (w : World) : ∀ n : Nat, Below w.heap.size w (w.drewN n) := fun n => below_drewN (Below.refl _ w) n
theorem cutQ_len (l : List UInt8) : (Lib.cut l [47]).2.1.length ≤ l.length := by
  unfold Lib.cut; split
  · simp
  · simp
theorem iPrefix_any (l : List UInt8) (hl : l.length ≤ 1048576) (w : World) (ht : Tabs w) (hs : ShP w) :
    Calls Tryd.prog 19 #[.string ⟨l.toArray⟩] w fun e w' => ((∃ S H L b, IsP l S H L b ∧ e = .returned (.tuple #[.agg #[.bool S, .int .i64 H.toInt, .int .i64 L.toInt, .int .i64 b], .bool true])) ∨ ((¬ ∃ S H L b, IsP l S H L b) ∧ e = .returned (.tuple #[.agg #[.bool false, .int .i64 0, .int .i64 0, .int .i64 0], .bool false]))) ∧ Below w.heap.size w w' := by
  have hq := cutQ_len l
  refine iPrefix_of l (Lib.cut l [47]).1 (Lib.cut l [47]).2.1 (Lib.cut l [47]).2.2 (atO (Lib.cut l [47]).2.1) ShP (fun x y h hb => h.below hb) ?_ ?_ ?_ ?_ w ht hs
  · intro x hx
    obtain ⟨m, hm⟩ := hx.m
    refine (Tryd.strings_Cut ⟨l.toArray⟩ ⟨#[47]⟩ m x (by show l.toArray.size < _; simp; omega) hm).mono ?_
    rintro e x' ⟨rfl, n, rfl⟩
    exact ⟨rfl, below_drewQ x n⟩
  · intro x hx
    generalize (Lib.cut l [47]).2.1 = q at *
    have hz : (⟨q.toArray⟩ : ByteArray).size = q.length := by show q.toArray.size = _; simp
    unfold atO
    cases ha : Lib.atoiAll q with
    | ok v =>
      refine (Tryd.strconv_Atoi_ok ⟨q.toArray⟩ (by omega) v ha x).mono ?_
      rintro e x' ⟨rfl, rfl | ⟨t, rfl⟩⟩
      · exact ⟨Or.inl ⟨v, rfl, rfl⟩, Below.refl _ _⟩
      · exact ⟨Or.inl ⟨v, rfl, rfl⟩, Joins.below_bytesWorld _ _ _ _ (Nat.le_refl _)⟩
    | «syntax» =>
      obtain ⟨ev, h1, k1⟩ := hx.sy
      refine (Tryd.strconv_Atoi_syntax ⟨q.toArray⟩ (by omega) ha ev x h1 k1).mono ?_
      rintro e x' ⟨N, rfl, _, _, hb⟩
      exact ⟨Or.inr ⟨rfl, _, _, _, rfl⟩, hb⟩
    | range =>
      obtain ⟨ev, h1, k1⟩ := hx.rg
      refine (Tryd.strconv_Atoi_range ⟨q.toArray⟩ (by omega) ha ev x h1 k1).mono ?_
      rintro e x' ⟨N, rfl, _, _, hb⟩
      exact ⟨Or.inr ⟨rfl, _, _, _, rfl⟩, hb⟩
  · intro S H L b h
    have hb := isP_bd h
    rw [isP_cut h]
    refine ⟨rfl, ?_⟩
    show atO (decs b) = some b
    unfold atO
    rw [atoi_decs b hb.1 hb.2]
  · by_cases h : l = []
    · right; subst h; rfl
    · exact Or.inl h

end Go.Proofs.YtofnnpjadehgmaaDoor
