/-
  The program's looks at times and at one session, the specification's l1In: they only read.
-/
import Derived.Test.YtjenbmiiikeenaaKDesk
namespace Go.Proofs.Ytjenbmiiikeenaa
open Go.RowKit

set_option maxHeartbeats 1000000 in
theorem timeOk_any (u : Int) (w : World) :
    Calls Try.prog 37 #[.int .i64 u] w fun e w' => e = .returned (.bool (tmB u)) ∧ w' = w := by
  unfold tmB
  cases h1 : decide (0 ≤ u)
  · go_enter Try.func37, Try.ntmps37
    go_wp2
    go_ret
    exact ⟨rfl, rfl⟩
  · go_enter Try.func37, Try.ntmps37
    go_wp2
    go_ret
    exact ⟨rfl, rfl⟩
set_option maxHeartbeats 1000000 in
theorem l1In7_any (a b c : Int) (w : World) :
    Calls Try.prog 31 #[.int .i64 a, .int .i64 b, .int .i64 c] w fun e w' => e = .returned (.bool (decide (b ≤ a) && decide (a ≤ c))) ∧ w' = w := by
  cases h1 : decide (b ≤ a)
  · go_enter Try.func31, Try.ntmps31
    go_wp2
    go_ret
    exact ⟨rfl, rfl⟩
  · go_enter Try.func31, Try.ntmps31
    go_wp2
    go_ret
    exact ⟨rfl, rfl⟩
theorem l1In7_r (a b c : Int) (r : Bool) (h : (decide (b ≤ a) && decide (a ≤ c)) = r) (w : World) :
    Calls Try.prog 31 #[.int .i64 a, .int .i64 b, .int .i64 c] w fun e w' => e = .returned (.bool r) ∧ w' = w := h ▸ l1In7_any a b c w

set_option maxRecDepth 10000 in
set_option maxHeartbeats 4000000 in
theorem sesOk_any (p o : Nat) (q : Ss) (w : World) (c1 : w.cell? ⟨p, o + 1, none⟩ = some (.int .i64 q.l)) (c2 : w.cell? ⟨p, o + 2, none⟩ = some (.string q.t)) (c3 : w.cell? ⟨p, o + 3, none⟩ = some (.int .i64 q.u)) :
    Calls Try.prog 42 #[.pointer (some ⟨p, o, none⟩)] w fun e w' => e = .returned (.bool (okSs q)) ∧ w' = w := by
  have HT := hidP (timeOk_any q.u)
  unfold okSs emB

  generalize tmB q.u = T at *
  cases h1 : decide (0 ≤ q.l) <;> cases h3 : decide ((q.t.size : Int) ≤ 200) <;> cases h4 : decide (0 < q.l) <;> cases h5 : q.t.toList.isEmpty
  all_goals
    cases h2 : decide (q.l ≤ 1000000)
    all_goals
      go_enter Try.func42, Try.ntmps42
      go_wp2_with fail
      first
      | (go_ret; exact ⟨rfl, rfl⟩)
      | (refine (HT.out _).mono ?_; rintro e w2 ⟨rfl, rfl⟩; go_wp2_with fail; go_ret; exact ⟨rfl, rfl⟩)

end Go.Proofs.Ytjenbmiiikeenaa
