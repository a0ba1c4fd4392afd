/-
  The program's readAt at addresses: whatever a reader gives up with is caught, and its number told; nothing old in memory turns.
-/
import Derived.Test.YtdcbmeiopfdkeaaCAtH
import Derived.Test.YtdcbmeiopfdkeaaCAdI
import Derived.Defers
import Derived.Recover
namespace Go.Proofs.Ytdcbmeiopfdkeaa
open Go.RowKit

set_option maxHeartbeats 1000000 in
theorem catchA_p (p : Addr) (x f : Int) (older : List PanicEntry) (w : World) (hc : w.cell? p = some (.int .i64 x)) (hz : w.frozen? p = false) :
    CallsD Try.prog 66 #[.pointer (some p)] (.panicking ({ v := .iface 80 (.int .i64 f), recovered := false } :: older)) w fun e u' w' =>
      e = .returned (.tuple #[]) ∧ u' = .panicking ({ v := .iface 80 (.int .i64 f), recovered := true } :: older) ∧ w' = w.setCell p (.int .i64 f) := by
  have hta : ∀ w : World, (Instr.typeAssert (.iface 80 (.int .i64 f)) 20 80 true).run Try.prog w = .ok (.tuple #[.int .i64 f, .bool true]) w := fun _ => by kernel_rfl
  refine callsD_of_wpS Try.func66 rfl fun c₀ cs hu => ?_
  apply wpS_seq
  apply wpS_region
  simp [wpOpsS, go_sem, recoverD, hu, Try.ntmps66, Exit.thenS, hta]
  apply wpS_seq
  apply wpS_region
  simp [wpOpsS, go_sem, Exit.thenS]
  refine wpS_cond (t := true) (by simp [Act.eval, Array.replicate]) ?_
  simp only [if_true]
  apply wpS_region
  simp [wpOpsS, go_sem, hc, hz, bodyPostS, results, Try.results66]

set_option maxHeartbeats 1000000 in
theorem catchA_n (p : Addr) (w : World) :
    CallsD Try.prog 66 #[.pointer (some p)] .returning w fun e u' w' => e = .returned (.tuple #[]) ∧ u' = .returning ∧ w' = w := by
  have hta : ∀ w : World, (Instr.typeAssert Value.nilIface 20 80 true).run Try.prog w = .ok (.tuple #[.int .i64 0, .bool false]) w := fun _ => by kernel_rfl
  refine callsD_of_wpS Try.func66 rfl fun c₀ cs hu => ?_
  apply wpS_seq
  apply wpS_region
  simp [wpOpsS, go_sem, recoverD, hu, Try.ntmps66, Exit.thenS, hta]
  apply wpS_seq
  apply wpS_region
  simp [wpOpsS, go_sem, Exit.thenS]
  refine wpS_cond (t := false) (by simp [Act.eval, Array.replicate]) ?_
  simp only [Bool.false_eq_true, if_false]
  refine wpS_of_wp (wp_skip ?_)
  cases c₀
  simp_all [bodyPostS, results, Try.results66]

set_option maxHeartbeats 2000000 in
theorem readAtA_out (a : Option Addr) (n cap : Nat) (at' : Int) (fv : Value) (w : World) (h : at' < 0 ∨ (n : Int) < at') :
    Calls Try.prog 52 #[.slice a n cap, .int .i64 at', fv] w fun e w' => e = .returned (.tuple #[.agg #[.bool false, .int .i64 0, .int .i64 0], .int .i64 0, .int .i64 3]) ∧ Below w.heap.size w w' := by
  have b1 : Below w.heap.size w ((w.alloc (.cells #[.bool false, .int .i64 0, .int .i64 0] 38)).alloc (.cells #[.int .i64 3] 3)).drew := (((Below.refl _ w).alloc (Nat.le_refl _) _).alloc (by simp) _).drew
  have HB := hid' b1
  clear b1
  by_cases h0 : at' < 0
  · clear h
    go_enter_defers Try.func52, Try.ntmps52
    go_wp2_with fail
    go_region
    all_goals
      go_wp2_with fail
      simp [bodyPostD, Leaves, results, Try.results52, go_sem]
      exact HB.out
  · have h1 : (n : Int) < at' := by omega
    clear h
    go_enter_defers Try.func52, Try.ntmps52
    go_wp2_with fail
    go_region
    all_goals
      go_wp2_with fail
      simp [bodyPostD, Leaves, results, Try.results52, go_sem]
      exact HB.out

theorem rdr_newA (w : World) (a : Option Addr) (n cap : Nat) (zs : List Int) (at' : Nat) (hB : Byt w a zs) (hlen : zs.length = n) (hnc : n ≤ cap) (hcap : n ≤ 1000000000000 ∧ cap ≤ 9223372036854775807) (hle : at' ≤ n) :
    Rdr (((w.alloc (.cells #[.bool false, .int .i64 0, .int .i64 0] 38)).alloc (.cells #[.int .i64 3] 3)).alloc (.cells #[.slice a n cap, .int .i64 at'] 83)) (w.heap.size + 1 + 1) a n cap zs at' := by
  have h := rdr_new (w.alloc (.cells #[.bool false, .int .i64 0, .int .i64 0] 38)) a n cap zs at' (hB.later ((Below.refl _ w).alloc (Nat.le_refl _) _)) hlen hnc hcap hle
  simpa using h
theorem two_cells {w w1 : World} {ob : Obj} (h : (((w.alloc (.cells #[.bool false, .int .i64 0, .int .i64 0] 38)).alloc (.cells #[.int .i64 3] 3)).alloc ob).grownBy w1 (some (w.heap.size + 1 + 1))) :
    (w1.cell? ⟨w.heap.size, 0, none⟩ = some (.bool false) ∧ w1.cell? ⟨w.heap.size, 1, none⟩ = some (.int .i64 0) ∧ w1.cell? ⟨w.heap.size, 2, none⟩ = some (.int .i64 0)) ∧ (w1.frozen? ⟨w.heap.size, 0, none⟩ = false ∧ w1.frozen? ⟨w.heap.size, 1, none⟩ = false ∧ w1.frozen? ⟨w.heap.size, 2, none⟩ = false) ∧ w1.cell? ⟨w.heap.size + 1, 0, none⟩ = some (.int .i64 3) ∧ w1.frozen? ⟨w.heap.size + 1, 0, none⟩ = false ∧ Below w.heap.size w w1 := by
  have hc := code_cell (w := w.alloc (.cells #[.bool false, .int .i64 0, .int .i64 0] 38)) (by simpa using h)
  simp at hc
  have old : ∀ o, w1.cell? ⟨w.heap.size, o, none⟩ = (w.alloc (.cells #[.bool false, .int .i64 0, .int .i64 0] 38)).cell? ⟨w.heap.size, o, none⟩ := fun o => by
    rw [h.cell_far ⟨w.heap.size, o, none⟩ (by simp; omega) (by simp; omega)]
    exact ((((Below.refl (w.heap.size + 1) (w.alloc (.cells #[.bool false, .int .i64 0, .int .i64 0] 38))).alloc (by simp) _).alloc (by simp) ob).cell (p := ⟨w.heap.size, o, none⟩) (by simp))
  have oldf : ∀ o, w1.frozen? ⟨w.heap.size, o, none⟩ = (w.alloc (.cells #[.bool false, .int .i64 0, .int .i64 0] 38)).frozen? ⟨w.heap.size, o, none⟩ := fun o => by
    rw [h.frozen_far ⟨w.heap.size, o, none⟩ (by simp; omega) (by simp; omega)]
    exact ((((Below.refl (w.heap.size + 1) (w.alloc (.cells #[.bool false, .int .i64 0, .int .i64 0] 38))).alloc (by simp) _).alloc (by simp) ob).frozen (p := ⟨w.heap.size, o, none⟩) (by simp))
  refine ⟨⟨?_, ?_, ?_⟩, ⟨?_, ?_, ?_⟩, hc.1, hc.2.1, ((Below.refl _ w).alloc (Nat.le_refl _) _).trans (hc.2.2.mono (by omega))⟩
  · rw [old]; simp [go_sem]
  · rw [old]; simp [go_sem]
  · rw [old]; simp [go_sem]
  · rw [oldf]; simp [go_sem]
  · rw [oldf]; simp [go_sem]
  · rw [oldf]; simp [go_sem]

set_option maxHeartbeats 4000000 in
theorem readAtA_in (G : Bool → Int → Int → Nat → Prop) (Bf : Int → Prop) (a : Option Addr) (n cap at' : Nat) (zs : List Int) (w : World) (hB : Byt w a zs) (hlen : zs.length = n) (hnc : n ≤ cap) (hcap : n ≤ 1000000000000 ∧ cap ≤ 9223372036854775807) (hle : at' ≤ n)
    (hread : ∀ wr, Rdr wr (w.heap.size + 1 + 1) a n cap zs at' → Calls Try.prog 53 #[.pointer (some ⟨w.heap.size + 1 + 1, 0, none⟩)] wr fun e w' => ((∃ s h l k, e = .returned (.agg #[.bool s, .int .i64 h, .int .i64 l]) ∧ Rdr w' (w.heap.size + 1 + 1) a n cap zs k ∧ G s h l k) ∨ (∃ f, e = .panicked [{ v := .iface 80 (.int .i64 f), recovered := false }] ∧ Bf f)) ∧ wr.grownBy w' (some (w.heap.size + 1 + 1))) :
    Calls Try.prog 52 #[.slice a n cap, .int .i64 at', .func (.func 53) #[] #[]] w fun e w' => ((∃ s h l k, e = .returned (.tuple #[.agg #[.bool s, .int .i64 h, .int .i64 l], .int .i64 (k : Nat), .int .i64 0]) ∧ G s h l k) ∨ (∃ f, e = .returned (.tuple #[.agg #[.bool false, .int .i64 0, .int .i64 0], .int .i64 0, .int .i64 f]) ∧ Bf f)) ∧ Below w.heap.size w w' := by
  have hmf : ∀ (fn : Fn) (first cap : Array Value) (w : World), (Instr.makeFunc fn first cap).run Try.prog w = .ok (.func fn first cap) w := fun _ _ _ _ => rfl
  have HC := hid' (hread _ (rdr_newA w a n cap zs at' hB hlen hnc hcap hle))
  clear hread hB hlen
  go_enter_defers Try.func52, Try.ntmps52
  go_wp2_with fail
  refine HC.out.mono ?_
  rintro e w1 ⟨⟨s, h, l, k, rfl, hr1, hg1⟩ | ⟨f, rfl, hf⟩, hgr⟩
  · obtain ⟨⟨b0, b1, b2⟩, ⟨f0, f1, f2⟩, cC, fC, hB1⟩ := two_cells hgr
    have cI := hr1.idx
    have HG1 := hid' hg1
    have HB1 := hid' hB1
    clear hr1 hg1 hgr hB1
    go_wp2_with fail
    have q0 : (((w1.setCell ⟨w.heap.size, 0, none⟩ (.bool s)).setCell ⟨w.heap.size, 1, none⟩ (.int .i64 h)).setCell ⟨w.heap.size, 2, none⟩ (.int .i64 l)).cell? ⟨w.heap.size, 0, none⟩ = some (.bool s) := by simp [go_sem, b0]
    have q1 : (((w1.setCell ⟨w.heap.size, 0, none⟩ (.bool s)).setCell ⟨w.heap.size, 1, none⟩ (.int .i64 h)).setCell ⟨w.heap.size, 2, none⟩ (.int .i64 l)).cell? ⟨w.heap.size, 1, none⟩ = some (.int .i64 h) := by simp [go_sem, b1]
    have q2 : (((w1.setCell ⟨w.heap.size, 0, none⟩ (.bool s)).setCell ⟨w.heap.size, 1, none⟩ (.int .i64 h)).setCell ⟨w.heap.size, 2, none⟩ (.int .i64 l)).cell? ⟨w.heap.size, 2, none⟩ = some (.int .i64 l) := by simp [go_sem, b2]
    have g0 : (((w1.setCell ⟨w.heap.size, 0, none⟩ (.bool s)).setCell ⟨w.heap.size, 1, none⟩ (.int .i64 h)).setCell ⟨w.heap.size, 2, none⟩ (.int .i64 l)).frozen? ⟨w.heap.size, 0, none⟩ = false := by simp [go_sem, f0]
    have g1 : (((w1.setCell ⟨w.heap.size, 0, none⟩ (.bool s)).setCell ⟨w.heap.size, 1, none⟩ (.int .i64 h)).setCell ⟨w.heap.size, 2, none⟩ (.int .i64 l)).frozen? ⟨w.heap.size, 1, none⟩ = false := by simp [go_sem, f1]
    have g2 : (((w1.setCell ⟨w.heap.size, 0, none⟩ (.bool s)).setCell ⟨w.heap.size, 1, none⟩ (.int .i64 h)).setCell ⟨w.heap.size, 2, none⟩ (.int .i64 l)).frozen? ⟨w.heap.size, 2, none⟩ = false := by simp [go_sem, f2]
    have qC : (((w1.setCell ⟨w.heap.size, 0, none⟩ (.bool s)).setCell ⟨w.heap.size, 1, none⟩ (.int .i64 h)).setCell ⟨w.heap.size, 2, none⟩ (.int .i64 l)).cell? ⟨w.heap.size + 1, 0, none⟩ = some (.int .i64 3) := by simp [go_sem, cC]
    have gC : (((w1.setCell ⟨w.heap.size, 0, none⟩ (.bool s)).setCell ⟨w.heap.size, 1, none⟩ (.int .i64 h)).setCell ⟨w.heap.size, 2, none⟩ (.int .i64 l)).frozen? ⟨w.heap.size + 1, 0, none⟩ = false := by simp [go_sem, fC]
    have qI : (((w1.setCell ⟨w.heap.size, 0, none⟩ (.bool s)).setCell ⟨w.heap.size, 1, none⟩ (.int .i64 h)).setCell ⟨w.heap.size, 2, none⟩ (.int .i64 l)).cell? ⟨w.heap.size + 1 + 1, 1, none⟩ = some (.int .i64 k) := by
      rw [World.cell?_setCell_far _ _ _ _ (by show w.heap.size ≠ w.heap.size + 1 + 1; omega), World.cell?_setCell_far _ _ _ _ (by show w.heap.size ≠ w.heap.size + 1 + 1; omega), World.cell?_setCell_far _ _ _ _ (by show w.heap.size ≠ w.heap.size + 1 + 1; omega)]; exact cI
    have HB2 := hid' (((HB1.out.setCell (p := ⟨w.heap.size, 0, none⟩) (Nat.le_refl _) (.bool s)).setCell (p := ⟨w.heap.size, 1, none⟩) (Nat.le_refl _) (.int .i64 h)).setCell (p := ⟨w.heap.size, 2, none⟩) (Nat.le_refl _) (.int .i64 l))
    clear b0 b1 b2 f0 f1 f2 cC fC cI HB1
    generalize ((w1.setCell ⟨w.heap.size, 0, none⟩ (.bool s)).setCell ⟨w.heap.size, 1, none⟩ (.int .i64 h)).setCell ⟨w.heap.size, 2, none⟩ (.int .i64 l) = W at *
    go_region
    all_goals
      go_wp2_with fail
      refine leaves_cons (f := 66) (args := #[.pointer (some ⟨w.heap.size + 1, 0, none⟩)]) (by simp) (by simp [go_sem]) ?_
      refine (catchA_n ⟨w.heap.size + 1, 0, none⟩ _).mono ?_
      rintro e u' w'' ⟨rfl, rfl, rfl⟩
      simp [Leaves, settle, results, Try.results52, go_sem, qC, q0, q1, q2]
      refine ⟨Or.inl ?_, ((((HB2.out.setCell (Nat.le_refl _) _).setCell (Nat.le_refl _) _).setCell (Nat.le_refl _) _).setCell (Nat.le_succ _) _).drew⟩
      have hg := HG1.out
      cases s
      · exact Or.inl ⟨h, l, k, ⟨⟨rfl, rfl, rfl⟩, rfl⟩, hg⟩
      · exact Or.inr ⟨h, l, k, ⟨⟨rfl, rfl, rfl⟩, rfl⟩, hg⟩
  · obtain ⟨⟨b0, b1, b2⟩, ⟨f0, f1, f2⟩, cC, fC, hB1⟩ := two_cells hgr
    have HF := hid' hf
    have HB1 := hid' hB1
    clear hf hgr hB1
    go_wp2_with fail
    refine leaves_cons (f := 66) (args := #[.pointer (some ⟨w.heap.size + 1, 0, none⟩)]) (by simp) (by simp [go_sem]) ?_
    refine (catchA_p ⟨w.heap.size + 1, 0, none⟩ 3 f [] _ cC fC).mono ?_
    rintro e u' w'' ⟨rfl, rfl, rfl⟩
    simp [Leaves, settle, results, Try.results52, go_sem, cC, b0, b1, b2]
    exact ⟨Or.inr HF.out, HB1.out.setCell (Nat.le_succ _) _⟩

end Go.Proofs.Ytdcbmeiopfdkeaa
