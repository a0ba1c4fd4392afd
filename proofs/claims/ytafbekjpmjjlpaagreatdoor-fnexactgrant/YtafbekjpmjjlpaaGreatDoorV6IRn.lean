/-
  The program's Renew.
-/
import Derived.Test.YtafbekjpmjjlpaaGreatDoorV6IRl
namespace Go.Proofs.YtafbekjpmjjlpaaGreatDoor
open Go.RowKit

def spB (N span : Int) : Bool := (decide (1 ≤ span) && decide (span ≤ 1000)) && decide (wrap64 (N + span) ≤ 1000000000)
def rokB (ls : List Ls) (T N : Int) (ad : Ad) (span : Int) : Bool := (bkB ls T N && ad.ok) && ((decide (1 ≤ span) && decide (span ≤ 1000)) && decide (N + span ≤ 1000000000))
def upd (N span : Int) (q : Ls) : Ls := ⟨q.a, q.t, q.k, if q.u < N + span then N + span else q.u⟩
theorem bk_now {ls : List Ls} {T N : Int} (h : bkB ls T N = true) : 0 ≤ N ∧ N ≤ 1000000000 := by
  unfold bkB at h
  simp only [Bool.and_eq_true, decide_eq_true_eq] at h
  exact h.1.2.2
theorem sp_wrap {N span : Int} (h : 0 ≤ N ∧ N ≤ 1000000000) (h1 : (decide (1 ≤ span) && decide (span ≤ 1000)) = true) : IntKind.i64.wrap (N + span) = N + span ∧ wrap64 (N + span) = N + span := by
  simp only [Bool.and_eq_true, decide_eq_true_eq] at h1
  have h2 : IntKind.i64.wrap (N + span) = N + span := by rw [IntKind.wrap_i64]; omega
  exact ⟨h2, by rw [show wrap64 (N + span) = IntKind.i64.wrap (N + span) by rw [IntKind.wrap_i64, wrap64]]; exact h2⟩
theorem grown_drew (w : World) (r : Option Nat) : w.grownBy w.drew r := ⟨rfl, rfl, rfl, Nat.le_refl _, fun _ _ _ => rfl⟩
theorem set_same {xs : List Value} {i : Nat} {v : Value} (h : xs[i]? = some v) : xs.set i v = xs := by
  apply List.ext_getElem?
  intro j
  rw [List.getElem?_set]
  by_cases hj : i = j
  · subst hj
    have := (List.getElem?_eq_some_iff.1 h).1
    rw [if_pos rfl, if_pos this, h]
  · rw [if_neg hj]
theorem OwnG.putU {t : TypeId} {w : World} {B g n c I : Nat} {ls : List Ls} {q : Ls} (h : OwnG KLs t w B (.slice (some ⟨g, 0, none⟩) n c) ls) (hn : n = ls.length) (hq : ls[I]? = some q) (u : Int) :
    OwnG KLs t (w.setCell ⟨g, I * 6 + 5, none⟩ (.int .i64 u)) B (.slice (some ⟨g, 0, none⟩) n c) (ls.set I ⟨q.a, q.t, q.k, u⟩) := by
  have hI := (List.getElem?_eq_some_iff.1 hq).1
  have hraw : w.ownsRow B t 6 (.slice (some ⟨g, 0, none⟩) n c) n (gflat KLs ls) := by
    have := h; unfold OwnG at this; rw [← hn] at this; exact this
  have h1 := puts_own [.int .i64 u] w _ (I * 6 + 5) hraw
  have hat := gflat_at KLs ls I q hq
  have e : sets (gflat KLs ls) (I * 6 + 5) [.int .i64 u] = gflat KLs (ls.set I ⟨q.a, q.t, q.k, u⟩) := by
    rw [← gflat_set KLs ls I ⟨q.a, q.t, q.k, u⟩ hI]
    show (gflat KLs ls).set (I * 6 + 5) (.int .i64 u) = ((((((gflat KLs ls).set (I * 6) (.bool q.a.s)).set (I * 6 + 1) (.int .i64 q.a.H.toInt)).set (I * 6 + 2) (.int .i64 q.a.L.toInt)).set (I * 6 + 3) (.string q.t)).set (I * 6 + 4) (.int .i64 q.k)).set (I * 6 + 5) (.int .i64 u)
    have h0 : (gflat KLs ls)[I * 6]? = some (.bool q.a.s) := hat 0 (by show 0 < 6; omega)
    have h1 : (gflat KLs ls)[I * 6 + 1]? = some (.int .i64 q.a.H.toInt) := hat 1 (by show 1 < 6; omega)
    have h2 : (gflat KLs ls)[I * 6 + 2]? = some (.int .i64 q.a.L.toInt) := hat 2 (by show 2 < 6; omega)
    have h3 : (gflat KLs ls)[I * 6 + 3]? = some (.string q.t) := hat 3 (by show 3 < 6; omega)
    have h4 : (gflat KLs ls)[I * 6 + 4]? = some (.int .i64 q.k) := hat 4 (by show 4 < 6; omega)
    rw [set_same h0, set_same h1, set_same h2, set_same h3, set_same h4]
  rw [e] at h1
  unfold OwnG
  rw [List.length_set, ← hn]
  exact h1

set_option maxHeartbeats 1000000 in
theorem spanOk_any (a : Option Addr) (n c : Nat) (T N span : Int) (w : World) :
    Calls Tryz.prog 36 #[.agg #[.slice a n c, .int .i64 T, .int .i64 N], .int .i64 span] w fun e w' => e = .returned (.bool (spB N span)) ∧ Below w.heap.size w w' := by
  have hv : spB N span = ((decide (1 ≤ span) && decide (span ≤ 1000)) && decide (wrap64 (N + span) ≤ 1000000000)) := rfl
  rw [hv]
  clear hv
  cases h1 : decide (1 ≤ span) <;> cases h2 : decide (span ≤ 1000)
  all_goals
    go_enter Tryz.func36, Tryz.ntmps36
    go_wp2_with fail
    go_ret
    exact ⟨rfl, alloc_below w _⟩

end Go.Proofs.YtafbekjpmjjlpaaGreatDoor
