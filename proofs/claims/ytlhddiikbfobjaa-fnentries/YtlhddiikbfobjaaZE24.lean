/-
  The specification's EntryOk of an entry whose bytes begin their block; what both KeepOk ask.
-/
import Derived.Test.YtlhddiikbfobjaaZE9
import Derived.Test.YtlhddiikbfobjaaZE15
namespace Go.Proofs.Ytlhddiikbfobjaa
open Go.ChangeShapes Go.WideShapes Go.ChangeAt Go.RowKit Go.Joins Go.Deep

theorem lasE_ge : ∀ (es : List En) (l : Int), risE l es = true → l ≤ lasE l es
  | [], l, _ => Int.le_refl _
  | e :: t, l, h => by
      rw [risE_split, Bool.and_eq_true, Bool.and_eq_true, decide_eq_true_eq] at h
      rw [lasE_cons]
      exact Int.le_trans h.1.2 (lasE_ge t e.T h.2)

end Go.Proofs.Ytlhddiikbfobjaa
