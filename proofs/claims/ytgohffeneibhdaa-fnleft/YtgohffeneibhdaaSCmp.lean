/-
  The program's cmpSpan, by its plain twin over CmpAddr's answer.
-/
import Derived.Test.YtgohffeneibhdaaMAc
import Derived.Test.YtgohffeneibhdaaSIns
namespace Go.Proofs.Ytgohffeneibhdaa
open Go.RowKit

set_option maxHeartbeats 1000000 in
theorem cmpSpan_any (s : Bool) (h l b : Int) (s' : Bool) (h' l' b' : Int) (c : Int) (hc : ∀ w : World, Calls Try.prog 40 #[.agg #[.bool s, .int .i64 h, .int .i64 l], .agg #[.bool s', .int .i64 h', .int .i64 l']] w fun e w' => e = .returned (.int .i64 c) ∧ Below w.heap.size w w') (w : World) :
    Calls Try.prog 30 #[.agg #[.bool s, .int .i64 h, .int .i64 l, .int .i64 b], .agg #[.bool s', .int .i64 h', .int .i64 l', .int .i64 b']] w fun e w' => e = .returned (.int .i64 (orI c (cmpW b' b))) ∧ Below w.heap.size w w' := by
  have HC : Hid (∀ w : World, _) := hc
  clear hc
  go_enter Try.func30, Try.ntmps30
  go_wp2_with fail
  go_region_held3 (fun x => x.cell? ⟨w.heap.size, 0, none⟩ = some (.bool s) ∧ x.cell? ⟨w.heap.size, 1, none⟩ = some (.int .i64 h) ∧ x.cell? ⟨w.heap.size, 2, none⟩ = some (.int .i64 l) ∧ x.cell? ⟨w.heap.size, 3, none⟩ = some (.int .i64 b) ∧ x.cell? ⟨w.heap.size + 1, 0, none⟩ = some (.bool s') ∧ x.cell? ⟨w.heap.size + 1, 1, none⟩ = some (.int .i64 h') ∧ x.cell? ⟨w.heap.size + 1, 2, none⟩ = some (.int .i64 l') ∧ x.cell? ⟨w.heap.size + 1, 3, none⟩ = some (.int .i64 b')) ((refine eight_of_below' (W := (w.alloc (.cells #[.bool s, .int .i64 h, .int .i64 l, .int .i64 b] 55)).alloc (.cells #[.bool s', .int .i64 h', .int .i64 l', .int .i64 b'] 55)) (n := w.heap.size + 2) ?_ (by omega) (by omega) ⟨by simp [go_sem], by simp [go_sem], by simp [go_sem], by simp [go_sem], by simp [go_sem], by simp [go_sem], by simp [go_sem], by simp [go_sem]⟩; repeat (first | with_reducible exact Below.refl _ _ | (with_reducible refine Below.drew ?_) | (with_reducible refine Below.alloc ?_ ?_ _; rotate_left; (focus (first | omega | (simp; omega) | (simp; done)))) | (with_reducible refine Below.setCell ?_ ?_ _; rotate_left; (focus (first | omega | (simp; omega) | (simp; done)))) | (with_reducible refine Below.trans ?_ (hb1.mono ?_); rotate_left; (focus (first | omega | (simp; omega) | (simp; done))))))) (first | (go_at_call 40; refine (HC.out _).mono ?_; rintro e w1 ⟨rfl, hb1⟩; have hz1 := hb1.size; (try simp at hz1); (first | (refine ltk (w.heap.size) (w1.heap.size) ?_ ?_; (focus omega); intro f10) | skip); (first | (refine ltk (w.heap.size + 1) (w1.heap.size) ?_ ?_; (focus omega); intro f11) | skip); (refine olds_k (w.heap.size + 2) hb1 ?_ ?_; (focus (first | omega | (simp; omega) | (simp; done))); intro hc1 hf1)) | (go_at_call 41; refine (cmpInt_any b' b _).mono ?_; rintro e w2 ⟨rfl, rfl⟩) | (go_at_call 39; refine (cmpOr_any c (cmpW b' b) _ _ ?_ ?_).mono ?_; (focus (simp [go_sem])); (focus (simp [go_sem])); rintro e w3 ⟨rfl, rfl⟩))
  all_goals
    go_wp2_with fail
    go_ret
    refine ⟨rfl, ?_⟩
    repeat (first | with_reducible exact Below.refl _ _ | (with_reducible refine Below.drew ?_) | (with_reducible refine Below.alloc ?_ ?_ _; rotate_left; (focus (first | omega | (simp; omega) | (simp; done)))) | (with_reducible refine Below.setCell ?_ ?_ _; rotate_left; (focus (first | omega | (simp; omega) | (simp; done)))) | (with_reducible refine Below.trans ?_ (hb1.mono ?_); rotate_left; (focus (first | omega | (simp; omega) | (simp; done)))))

end Go.Proofs.Ytgohffeneibhdaa
