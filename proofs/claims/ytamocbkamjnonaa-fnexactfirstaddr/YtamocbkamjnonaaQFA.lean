/-
  The program's FirstAddr at every block and every row.
-/
import Derived.Test.YtamocbkamjnonaaIFAddr
import Derived.Test.YtamocbkamjnonaaQFAa
namespace Go.Proofs.Ytamocbkamjnonaa
open Go.RowKit

theorem iFA_yes (x : Sp) (hx : x.ok) (us : List Ad) (hl : us.length ≤ 300) : ∃ q ok, FAns x us (.tuple #[.agg #[.bool (Ad.s q), .int .i64 q.H.toInt, .int .i64 q.L.toInt], .bool ok]) ∧
    ∀ (a : Option Addr) (cap : Nat) (w : World), RowA w a us → Calls Try.prog 27 #[.agg #[.bool x.s, .int .i64 x.H.toInt, .int .i64 x.L.toInt, .int .i64 ((wd x.s : Int) - (x.n : Int))], .slice a us.length cap] w fun e w' => e = .returned (.tuple #[.agg #[.bool q.s, .int .i64 q.H.toInt, .int .i64 q.L.toInt], .bool ok]) ∧ Below w.heap.size w w' := by
  obtain ⟨q, ok, hv, hf⟩ := left_ans x hx us
  have hT : ∀ t ∈ (us.filter (hadP x.pre)).map Ad.sp, t.ok := fun t ht => by
    obtain ⟨u, hu, rfl⟩ := List.mem_map.1 ht
    exact had_ok (List.mem_filter.1 hu).2
  have hTl : ((us.filter (hadP x.pre)).map Ad.sp).length ≤ 300 := by rw [List.length_map]; exact Nat.le_trans (List.length_filter_le _ _) hl
  refine ⟨⟨q.s, q.H, q.L⟩, ok, hf, fun a cap w hB => ?_⟩
  refine iFA x.pre a us.length cap us rfl w hB hl q ok _ rfl fun wx a' c' hR => ?_
  rw [takA_sp] at hR ⊢
  rw [List.length_map]
  have h := iFirst x.pre a' ((us.filter (hadP x.pre)).map Ad.sp).length c' (wd x.s : Int) wx _ (part_gives x.pre a' _ c' (wd x.s : Int) wx _ (left_yes x hx a' c' _ hT wx hR hTl))
  rw [left_room x hx, hv] at h
  exact h

theorem iFA_none (p : Pf) (hp : p.pok = false) (us : List Ad) (hl : us.length ≤ 300) (a : Option Addr) (cap : Nat) (w : World) (hB : RowA w a us) :
    Calls Try.prog 27 #[.agg #[.bool p.s, .int .i64 p.H.toInt, .int .i64 p.L.toInt, .int .i64 p.b], .slice a us.length cap] w fun e w' => e = .returned (.tuple #[.agg #[.bool false, .int .i64 0, .int .i64 0], .bool false]) ∧ Below w.heap.size w w' := by
  have ht : takA p us = [] := by
    unfold takA
    rw [List.map_eq_nil_iff, List.filter_eq_nil_iff]
    intro u _ h
    unfold hadP hadB at h
    have h1 : pokB p.s p.H p.L p.b = false := hp
    rw [h1] at h; cases h
  refine iFA p a us.length cap us rfl w hB hl ⟨false, 0, 0, 0⟩ false 0 (by rw [ht]; rfl) fun wx a' c' hR => ?_
  have hP := part_gives p a' 0 c' (wd p.s : Int) wx [] (left_no p a' c' [] wx (Row.nil _ _) (by simp) (by rw [hp, Bool.false_and]))
  rw [show partL p.s (wd p.s : Int) [] = [] by unfold partL; split <;> rfl] at hP
  exact iFirst p a' 0 c' (wd p.s : Int) wx [] hP

end Go.Proofs.Ytamocbkamjnonaa
