/-
  The two Answer answer alike.
-/
import Derived.Test.YtmlijlhlafdkbaaV7IAn
import Derived.Test.YtmlijlhlafdkbaaV7SAn
namespace Go.Proofs.Ytmlijlhlafdkbaa
open Go.RowKit

theorem an_both (n : Nat) (N : Int) (ls : List Ss) (hn : n = ls.length) (hl : n ≤ 1048576) (id s : Int) (rp : ByteArray) (u : Int) :
    ∃ (LS : List Ss) (nL : Nat) (N' : Int) (x : Bool), nL = LS.length ∧ nL ≤ 1048577 ∧ (∀ (g : Nat) (W : World), RowG KSs W (some ⟨g, 0, none⟩) ls → Calls Try.prog 22 #[.agg #[.slice (some ⟨g, 0, none⟩) n n, .int .i64 N], .int .i64 id, .int .i64 s, .string rp, .int .i64 u] W fun e w' => ∃ a' c', e = .returned (.tuple #[.agg #[.slice a' nL c', .int .i64 N'], .bool x]) ∧ OwnG KSs 52 w' W.heap.size (.slice a' nL c') LS ∧ Below W.heap.size W w') ∧ (∀ (g : Nat) (W : World), RowG KSs W (some ⟨g, 0, none⟩) ls → Calls Try.prog 23 #[.agg #[.slice (some ⟨g, 0, none⟩) n n, .int .i64 N], .int .i64 id, .int .i64 s, .string rp, .int .i64 u] W fun e w' => ∃ a' c', e = .returned (.tuple #[.agg #[.slice a' nL c', .int .i64 N'], .bool x]) ∧ OwnG KSs 52 w' W.heap.size (.slice a' nL c') LS ∧ Below W.heap.size W w') := by
  cases hr : dkB ls N
  · exact ⟨ls, n, N, false, hn, by omega, fun g W e1 => sAn_no _ n n N ls W hn e1 (fun h => by cases h) hl id s rp u 4 ⟨#[]⟩ (fun a c w e => sAsk_form a n c N ls w hn e hl id s hr) rfl, fun g W e1 => iAn_form _ n n N ls W hn e1 hl id s rp u hr⟩
  · cases hf : findS id ls with
    | none => exact ⟨ls, n, N, false, hn, by omega, fun g W e1 => sAn_no _ n n N ls W hn e1 (fun h => by cases h) hl id s rp u 4 ⟨#[]⟩ (fun a c w e => sAsk_none a n c N ls w hn e hl id s hr hf) rfl, fun g W e1 => iAn_none _ n n N ls W hn e1 hl id s rp u hr hf⟩
    | some I =>
      obtain ⟨q, hq, _⟩ := findS_at hf
      cases htk : tkB q s rp u
      · exact ⟨ls, n, N, false, hn, by omega, fun g W e1 => sAn_no _ n n N ls W hn e1 (fun h => by cases h) hl id s rp u (askN q.l s) (askT q s) (fun a c w e => sAsk_yes a n c N ls w hn e hl id s hr I hf q hq) htk, fun g W e1 => iAn_no _ n n N ls W hn e1 hl id s rp u hr I hf q hq htk⟩
      · exact ⟨ls.set I (⟨q.i, s, rp, max q.u u⟩ : Ss), n, N, true, by rw [List.length_set]; exact hn, by omega, fun g W e1 => sAn_yes _ n n N ls W hn e1 (fun h => by cases h) hl id s rp u (askN q.l s) (askT q s) (fun a c w e => sAsk_yes a n c N ls w hn e hl id s hr I hf q hq) htk I hf q hq, fun g W e1 => iAn_yes _ n n N ls W hn e1 hl id s rp u hr I hf q hq htk⟩

end Go.Proofs.Ytmlijlhlafdkbaa
