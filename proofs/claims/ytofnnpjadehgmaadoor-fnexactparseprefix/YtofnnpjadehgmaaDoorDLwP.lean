/-
  The exact law of ParsePrefix returns true at every text.
-/
import Derived.Test.YtofnnpjadehgmaaDoorDSPp
import Derived.Test.YtofnnpjadehgmaaDoorDIPq
import Derived.Test.YtofnnpjadehgmaaDoorBEqP
namespace Go.Proofs.YtofnnpjadehgmaaDoor
open Go.RowKit

theorem isP_one {l : List UInt8} {S S' : Bool} {H H' L L' : BitVec 64} {b b' : Int} (h : IsP l S H L b) (h' : IsP l S' H' L' b') : S = S' ∧ H = H' ∧ L = L' ∧ b = b' := by
  have e := isP_spl h
  rw [isP_spl h'] at e
  injection e with e0 e1
  injection e1 with e1 _
  have hT := isP_T h
  rw [← e0] at hT
  obtain ⟨a, x, y⟩ := isT_one hT (isP_T h')
  have n1 := isP_num h
  rw [← e1, isP_num h'] at n1
  refine ⟨a, BitVec.toInt_inj.mp x, BitVec.toInt_inj.mp y, ?_⟩
  cases n1; rfl

set_option maxHeartbeats 2000000 in
theorem lawPp (s : ByteArray) (w : World) (h9 : s.size ≤ 9223372036854775807) (ht : Tabs w) (hs : ShP w) :
    Calls Tryd.prog 5 #[.string s] w fun e w' => e = .returned (.bool true) ∧ Below w.heap.size w w' := by
  obtain ⟨l, rfl⟩ : ∃ l : List UInt8, s = ⟨l.toArray⟩ := ⟨s.data.toList, by simp⟩
  have h9' : l.length ≤ 9223372036854775807 := by have : l.toArray.size ≤ _ := h9; rw [List.size_toArray] at this; exact this
  have HI := hidP (fun W (hl : l.length ≤ 1048576) h h' => iPrefix_any l hl W h h')
  have HS := hidP (fun W (hl : l.length ≤ 1048576) => sPrefix_any l W hl)
  have HT := hidP (fun W (h : Below w.heap.size w W) => ht.below h)
  have HSh := hidP (fun W (h : Below w.heap.size w W) => hs.below h)
  clear ht h9 hs
  by_cases hl : l.length ≤ 1048576
  · have d1 : decide ((1048576 : Int) < (l.length : Int)) = false := decide_eq_false (by omega)
    go_enter Tryd.func5, Tryd.ntmps5
    go_wp2_with fail
    refine (HS.out _ hl).mono ?_
    rintro e w1 ⟨h1, hb1⟩
    have HB1 := hidP hb1
    clear hb1
    obtain ⟨S, H, L, z, b, hres, HEX⟩ : ∃ (S : Bool) (H L : BitVec 64) (z : Int) (b : Bool), e = .returned (.tuple #[.agg #[.bool S, .int .i64 H.toInt, .int .i64 L.toInt, .int .i64 z], .bool b]) ∧ Hid ((b = true ∧ IsP l S H L z) ∨ (b = false ∧ S = false ∧ H = 0#64 ∧ L = 0#64 ∧ z = 0 ∧ ¬ ∃ S H L b, IsP l S H L b)) := by
      rcases h1 with ⟨S, H, L, z, h, e⟩ | ⟨h, e⟩
      · exact ⟨S, H, L, z, true, e, Or.inl ⟨rfl, h⟩⟩
      · exact ⟨false, 0#64, 0#64, 0, false, e, Or.inr ⟨rfl, rfl, rfl, rfl, rfl, h⟩⟩
    clear h1
    subst hres
    go_wp2_with fail
    refine (HI.out _ hl (HT.out _ (HB1.out.alloc (by have := HB1.out.size; omega) _)) (HSh.out _ (HB1.out.alloc (by have := HB1.out.size; omega) _))).mono ?_
    rintro e w2 ⟨h2, hb2⟩
    have hres : e = .returned (.tuple #[.agg #[.bool S, .int .i64 H.toInt, .int .i64 L.toInt, .int .i64 z], .bool b]) := by
      rcases h2 with ⟨S', H', L', z', h, e⟩ | ⟨h, e⟩
      · rcases HEX.out with ⟨rfl, h'⟩ | ⟨_, _, _, _, _, h'⟩
        · obtain ⟨rfl, rfl, rfl, rfl⟩ := isP_one h h'; exact e
        · exact absurd ⟨_, _, _, _, h⟩ h'
      · rcases HEX.out with ⟨_, h'⟩ | ⟨rfl, rfl, rfl, rfl, rfl, _⟩
        · exact absurd ⟨_, _, _, _, h'⟩ h
        · exact e
    clear h2
    subst hres
    have z0 : w1.heap.size < w2.heap.size := by have := hb2.size; simp at this; omega
    obtain ⟨hc2, hf2⟩ := olds (n := w1.heap.size + 1) (hb2.mono (by simp))
    have HB2 : Hid (Below w.heap.size w w2) := hidP ((HB1.out.alloc (by have := HB1.out.size; omega) _).trans (hb2.mono (by have := HB1.out.size; simp; omega)))
    clear hb2 HEX
    go_wp2_with fail
    refine (eqP_same S H.toInt L.toInt z _).mono ?_
    rintro e w3 ⟨rfl, hb3⟩
    have HB3 : Hid (Below w.heap.size w w3) := hidP ((HB2.out.alloc (by have := HB2.out.size; omega) _).trans (hb3.mono (by have := HB2.out.size; simp; omega)))
    clear hb3
    cases b
    all_goals
      go_wp2_with fail
      go_ret
      exact ⟨rfl, HB3.out⟩
  · have d1 : decide ((1048576 : Int) < (l.length : Int)) = true := decide_eq_true (by omega)
    clear HI HS
    go_enter Tryd.func5, Tryd.ntmps5
    go_wp2_with fail
    go_ret
    exact ⟨rfl, Below.refl _ _⟩

end Go.Proofs.YtofnnpjadehgmaaDoor
