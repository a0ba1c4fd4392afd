/-
  The program's readAt at one type: whatever a reader gives up with is caught, and its number told; nothing old in memory turns.
-/
import Derived.Test.YtdcbmeiopfdkeaaCAtH
import Derived.Defers
import Derived.Recover
namespace Go.Proofs.Ytdcbmeiopfdkeaa
open Go.RowKit

set_option maxHeartbeats 1000000 in
theorem catchS_p (p : Addr) (x f : Int) (older : List PanicEntry) (w : World) (hc : w.cell? p = some (.int .i64 x)) (hz : w.frozen? p = false) :
    CallsD Try.prog 63 #[.pointer (some p)] (.panicking ({ v := .iface 80 (.int .i64 f), recovered := false } :: older)) w fun e u' w' =>
      e = .returned (.tuple #[]) ∧ u' = .panicking ({ v := .iface 80 (.int .i64 f), recovered := true } :: older) ∧ w' = w.setCell p (.int .i64 f) := by
  have hta : ∀ w : World, (Instr.typeAssert (.iface 80 (.int .i64 f)) 20 80 true).run Try.prog w = .ok (.tuple #[.int .i64 f, .bool true]) w := fun _ => by kernel_rfl
  refine callsD_of_wpS Try.func63 rfl fun c₀ cs hu => ?_
  apply wpS_seq
  apply wpS_region
  simp [wpOpsS, go_sem, recoverD, hu, Try.ntmps63, Exit.thenS, hta]
  apply wpS_seq
  apply wpS_region
  simp [wpOpsS, go_sem, Exit.thenS]
  refine wpS_cond (t := true) (by simp [Act.eval, Array.replicate]) ?_
  simp only [if_true]
  apply wpS_region
  simp [wpOpsS, go_sem, hc, hz, bodyPostS, results, Try.results63]

set_option maxHeartbeats 1000000 in
theorem catchS_n (p : Addr) (w : World) :
    CallsD Try.prog 63 #[.pointer (some p)] .returning w fun e u' w' => e = .returned (.tuple #[]) ∧ u' = .returning ∧ w' = w := by
  have hta : ∀ w : World, (Instr.typeAssert Value.nilIface 20 80 true).run Try.prog w = .ok (.tuple #[.int .i64 0, .bool false]) w := fun _ => by kernel_rfl
  refine callsD_of_wpS Try.func63 rfl fun c₀ cs hu => ?_
  apply wpS_seq
  apply wpS_region
  simp [wpOpsS, go_sem, recoverD, hu, Try.ntmps63, Exit.thenS, hta]
  apply wpS_seq
  apply wpS_region
  simp [wpOpsS, go_sem, Exit.thenS]
  refine wpS_cond (t := false) (by simp [Act.eval, Array.replicate]) ?_
  simp only [Bool.false_eq_true, if_false]
  refine wpS_of_wp (wp_skip ?_)
  cases c₀
  simp_all [bodyPostS, results, Try.results63]

set_option maxHeartbeats 2000000 in
theorem readAtS_out (a : Option Addr) (n cap : Nat) (at' : Int) (fv : Value) (w : World) (h : at' < 0 ∨ (n : Int) < at') :
    Calls Try.prog 45 #[.slice a n cap, .int .i64 at', fv] w fun e w' => e = .returned (.tuple #[.string ⟨#[]⟩, .int .i64 0, .int .i64 3]) ∧ Below w.heap.size w w' := by
  have b1 : Below w.heap.size w (w.alloc (.cells #[.int .i64 3] 3)).drew := ((Below.refl _ w).alloc (Nat.le_refl _) _).drew
  have HB := hid' b1
  clear b1
  by_cases h0 : at' < 0
  · clear h
    go_enter_defers Try.func45, Try.ntmps45
    go_wp2_with fail
    go_region
    all_goals
      go_wp2_with fail
      simp [bodyPostD, Leaves, results, Try.results45, go_sem]
      exact HB.out
  · have h1 : (n : Int) < at' := by omega
    clear h
    go_enter_defers Try.func45, Try.ntmps45
    go_wp2_with fail
    go_region
    all_goals
      go_wp2_with fail
      simp [bodyPostD, Leaves, results, Try.results45, go_sem]
      exact HB.out

set_option maxHeartbeats 4000000 in
theorem readAtS_in (G : Value → Nat → World → Prop) (Bf : Int → Prop) (a : Option Addr) (n cap at' : Nat) (zs : List Int) (w : World) (hB : Byt w a zs) (hlen : zs.length = n) (hnc : n ≤ cap) (hcap : n ≤ 1000000000000 ∧ cap ≤ 9223372036854775807) (hle : at' ≤ n)
    (hG : ∀ v k W x, G v k W → G v k (W.setCell ⟨w.heap.size, 0, none⟩ x)) (hGd : ∀ v k W, G v k W → G v k W.drew)
    (hread : ∀ wr, Rdr wr (w.heap.size + 1) a n cap zs at' → Calls Try.prog 46 #[.pointer (some ⟨w.heap.size + 1, 0, none⟩)] wr fun e w' => ((∃ v k, e = .returned v ∧ Rdr w' (w.heap.size + 1) a n cap zs k ∧ G v k w') ∨ (∃ f, e = .panicked [{ v := .iface 80 (.int .i64 f), recovered := false }] ∧ Bf f)) ∧ wr.grownBy w' (some (w.heap.size + 1))) :
    Calls Try.prog 45 #[.slice a n cap, .int .i64 at', .func (.func 46) #[] #[]] w fun e w' => ((∃ v k, e = .returned (.tuple #[v, .int .i64 (k : Nat), .int .i64 0]) ∧ G v k w') ∨ (∃ f, e = .returned (.tuple #[.string ⟨#[]⟩, .int .i64 0, .int .i64 f]) ∧ Bf f)) ∧ Below w.heap.size w w' := by
  have hmf : ∀ (fn : Fn) (first cap : Array Value) (w : World), (Instr.makeFunc fn first cap).run Try.prog w = .ok (.func fn first cap) w := fun _ _ _ _ => rfl
  have hrd : Rdr ((w.alloc (.cells #[.int .i64 3] 3)).alloc (.cells #[.slice a n cap, .int .i64 at'] 83)) (w.heap.size + 1) a n cap zs at' := rdr_new w a n cap zs at' hB hlen hnc hcap hle
  have HC := hid' (hread _ hrd)
  have HG := hid' hG
  have HGd := hid' hGd
  clear hread hrd hB hlen hG hGd
  go_enter_defers Try.func45, Try.ntmps45
  go_wp2_with fail
  refine HC.out.mono ?_
  rintro e w1 ⟨⟨v, k, rfl, hr1, hg1⟩ | ⟨f, rfl, hf⟩, hgr⟩
  · obtain ⟨cC, fC, hB1⟩ := code_cell hgr
    have cI := hr1.idx
    have HG1 := hid' hg1
    have HB1 := hid' hB1
    clear hr1 hg1 hgr hB1
    go_wp2_with fail
    go_region
    all_goals
      go_wp2_with fail
      refine leaves_cons (f := 63) (args := #[.pointer (some ⟨w.heap.size, 0, none⟩)]) (by simp) (by simp [go_sem]) ?_
      refine (catchS_n ⟨w.heap.size, 0, none⟩ _).mono ?_
      rintro e u' w'' ⟨rfl, rfl, rfl⟩
      simp [Leaves, settle, results, Try.results45, go_sem, cC]
      exact ⟨Or.inl ⟨v, k, ⟨rfl, rfl⟩, HGd.out _ _ _ (HG.out _ _ _ _ HG1.out)⟩, (HB1.out.setCell (Nat.le_refl _) _).drew⟩
  · obtain ⟨cC, fC, hB1⟩ := code_cell hgr
    have HF := hid' hf
    have HB1 := hid' hB1
    clear hf hgr hB1
    go_wp2_with fail
    refine leaves_cons (f := 63) (args := #[.pointer (some ⟨w.heap.size, 0, none⟩)]) (by simp) (by simp [go_sem]) ?_
    refine (catchS_p ⟨w.heap.size, 0, none⟩ 3 f [] _ cC fC).mono ?_
    rintro e u' w'' ⟨rfl, rfl, rfl⟩
    simp [Leaves, settle, results, Try.results45, go_sem, cC]
    exact ⟨Or.inr HF.out, HB1.out.setCell (Nat.le_refl _) _⟩

end Go.Proofs.Ytdcbmeiopfdkeaa
