/-
  slices: the merge of two sorted parts of a row.
-/
import Derived.Test.YtgohffeneibhdaaSSymCa
import Derived.Test.YtgohffeneibhdaaSSymCb
namespace Go.Proofs.Ytgohffeneibhdaa
open Go.RowKit

theorem symC (A : Pf → Prop) (c : Pf → Pf → Int) (ho : Ordr A c) (hc : Cmpr A c) (g n cap B : Nat) (hn9 : n ≤ 1000000000) : ∀ k, SymP A c g n cap B k := by
  intro k
  induction k with
  | zero => intro p U V q a m b _ _ _ hk hU hV; omega
  | succ k IH =>
    intro p U V q a m b ha hm hb hk hU0 hV0 hUA hVA hU hV w h
    rcases Nat.lt_or_ge 1 U.length with h1 | h1
    · rcases Nat.lt_or_ge 1 V.length with h2 | h2
      · rcases Nat.lt_or_ge ((a + b) / 2) m with h3 | h3
        · exact symC_stepA A c ho hc g n cap B k hn9 IH p U V q a m b ha hm hb hk h1 h2 hUA hVA hU hV h3 w h
        · exact symC_stepB A c ho hc g n cap B k hn9 IH p U V q a m b ha hm hb hk h1 h2 hUA hVA hU hV h3 w h
      · match V, hV0, h2 with
        | [y], _, _ =>
          exact symB A c ho hc g n cap B p U q y a m b ha hm hb (by omega) (hVA y (by simp)) hUA hU hn9 w h
    · match U, hU0, h1 with
      | [x], _, _ =>
        exact symA A c ho hc g n cap B p V q x a m b ha hm hb (hUA x (by simp)) hVA hV hn9 w h

end Go.Proofs.Ytgohffeneibhdaa
