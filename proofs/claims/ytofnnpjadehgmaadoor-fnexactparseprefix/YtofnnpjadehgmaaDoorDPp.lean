/-
  The text of a right prefix is read back: plain.
-/
import Derived.Test.YtofnnpjadehgmaaDoorDSPa
import Derived.Test.YtofnnpjadehgmaaDoorDStB
import Derived.Test.YtofnnpjadehgmaaDoorBPt
namespace Go.Proofs.YtofnnpjadehgmaaDoor
open Go.RowKit

/-- Is this the text of that right prefix? -/
def IsP (l : List UInt8) (S : Bool) (H L : BitVec 64) (b : Int) : Prop := pokB S H L b = true ∧ l = tA S H.toInt L.toInt ++ [47] ++ decs b
theorem bdB (x : BitVec 64) : -9223372036854775808 ≤ x.toInt ∧ x.toInt ≤ 9223372036854775807 := by
  have h1 := BitVec.toInt_lt (x := x); have h2 := BitVec.le_toInt (x := x); simp at h1 h2; omega
theorem ofJ (x : Int) (h : -9223372036854775808 ≤ x ∧ x ≤ 9223372036854775807) : (BitVec.ofInt 64 x).toInt = x := by
  rw [BitVec.toInt_ofInt]; simp only [Int.bmod]; omega
theorem txt4_no47 (L : Int) : (47 : UInt8) ∉ txt4 L := by
  have no : ∀ z : Int, 0 ≤ z → z < 256 → (47 : UInt8) ∉ decs z := fun z a b => decs_no 47 (by simp) z a b
  unfold txt4
  simp only [List.nil_append, List.mem_append, not_or]
  exact ⟨⟨⟨⟨⟨⟨no _ (by omega) (by omega), by decide⟩, no _ (by omega) (by omega)⟩, by decide⟩, no _ (by omega) (by omega)⟩, by decide⟩, no _ (by omega) (by omega)⟩
theorem tA_no47 (S : Bool) (H L : Int) : (47 : UInt8) ∉ tA S H L := by
  unfold tA
  split
  · exact txt8_no 47 (by simp) _ (grp_bd H L)
  · exact txt4_no47 L
theorem isP_bd {l : List UInt8} {S : Bool} {H L : BitVec 64} {b : Int} (h : IsP l S H L b) : 0 ≤ b ∧ b ≤ 128 := by
  have h1 := (pokB_parts h.1).2.1
  have hw : (wd S : Int) ≤ 128 := by cases S <;> decide
  omega
theorem isP_T {l : List UInt8} {S : Bool} {H L : BitVec 64} {b : Int} (h : IsP l S H L b) : IsT (tA S H.toInt L.toInt) S H.toInt L.toInt := ⟨(pokB_parts h.1).1, bdB H, bdB L, rfl⟩
theorem isP_spl {l : List UInt8} {S : Bool} {H L : BitVec 64} {b : Int} (h : IsP l S H L b) : splA 47 [] l = [tA S H.toInt L.toInt, decs b] := by
  have hb := isP_bd h
  rw [h.2, List.append_assoc, splA_app _ _ _ _ (tA_no47 _ _ _), List.nil_append]
  show splA 47 (tA S H.toInt L.toInt) (47 :: decs b) = _
  rw [splA_sep, splA_no 47 _ (decs_no 47 (by simp) b hb.1 (by omega))]
theorem nmbB_less {base m m' : Int} {l : List UInt8} {z : Int} (h : nmbB base m l = some z) (hz : z ≤ m') : nmbB base m' l = some z := by
  unfold nmbB at *
  by_cases hn : l.length = 0 ∨ 9 < l.length
  · rw [if_pos hn] at h; cases h
  · rw [if_neg hn] at h ⊢
    cases hq : nm base l 0 with
    | none => rw [hq] at h; cases h
    | some n =>
      rw [hq] at h
      simp only [Option.bind_some] at h ⊢
      by_cases hm : n ≤ m
      · rw [if_pos hm] at h; cases h; rw [if_pos hz]
      · rw [if_neg hm] at h; cases h
theorem isP_num {l : List UInt8} {S : Bool} {H L : BitVec 64} {b : Int} (h : IsP l S H L b) : nmbB 10 128 (decs b) = some b := by
  have hb := isP_bd h
  exact nmbB_less (nmbB_decs b hb.1 (by omega)) hb.2
theorem isP_not {l q0 q1 : List UInt8} {S : Bool} {H L b : Int} (hs : splA 47 [] l = [q0, q1]) (hT : IsT q0 S H L) (hn : nmbB 10 128 q1 = some b) (hne : ¬ (pokB S (BitVec.ofInt 64 H) (BitVec.ofInt 64 L) b = true ∧ l = tA S H L ++ [47] ++ decs b)) : ¬ ∃ S H L b, IsP l S H L b := by
  rintro ⟨S', H', L', b', h⟩
  have h1 := isP_spl h
  rw [hs] at h1
  injection h1 with e0 e1
  injection e1 with e1 _
  subst e0
  subst e1
  obtain ⟨rfl, rfl, rfl⟩ := isT_one hT (isP_T h)
  have h2 := isP_num h
  rw [hn] at h2
  cases h2
  apply hne
  rw [BitVec.ofInt_toInt, BitVec.ofInt_toInt]
  exact h
theorem isP_noT {l q0 q1 : List UInt8} (hs : splA 47 [] l = [q0, q1]) (hT : ¬ ∃ S H L, IsT q0 S H L) : ¬ ∃ S H L b, IsP l S H L b := by
  rintro ⟨S', H', L', b', h⟩
  have h1 := isP_spl h
  rw [hs] at h1
  injection h1 with e0 e1
  exact hT ⟨_, _, _, by rw [e0]; exact isP_T h⟩
theorem isP_noN {l q0 q1 : List UInt8} (hs : splA 47 [] l = [q0, q1]) (hn : nmbB 10 128 q1 = none) : ¬ ∃ S H L b, IsP l S H L b := by
  rintro ⟨S', H', L', b', h⟩
  have h1 := isP_spl h
  rw [hs] at h1
  injection h1 with e0 e1
  injection e1 with e1 _
  have h2 := isP_num h
  rw [← e1, hn] at h2
  cases h2
theorem isP_no2 {l : List UInt8} (hs : (splA 47 [] l).length ≠ 2) : ¬ ∃ S H L b, IsP l S H L b := by
  rintro ⟨S', H', L', b', h⟩
  exact hs (by rw [isP_spl h]; rfl)

/-- The text that PrefixText gives. -/
def pT (S : Bool) (H L : Int) (b : Int) : List UInt8 := if pokB S (BitVec.ofInt 64 H) (BitVec.ofInt 64 L) b = true then tA S H L ++ [47] ++ decs b else []
theorem sAddr_tA (S : Bool) (H L : Int) (ok : okB S H L = true) (w : World) : Calls Tryd.prog 41 #[.agg #[.bool S, .int .i64 H, .int .i64 L]] w fun e w' => e = .returned (.string ⟨(tA S H L).toArray⟩) ∧ Below w.heap.size w w' := by
  cases S
  · obtain ⟨rfl, h0, h1⟩ := ok_four ok
    exact sText_ok4 L h0 h1 w
  · exact sText_ok6 H L w
theorem tA_len (S : Bool) (H L : Int) : (tA S H L).length ≤ 100 := by
  unfold tA; split
  · exact txt8_len _
  · exact txt4_len _
theorem sPText_any {q0 : List UInt8} (S : Bool) (H L b : Int) (hT : IsT q0 S H L) (hb : 0 ≤ b ∧ b ≤ 128) (w : World) : Calls Tryd.prog 42 #[.agg #[.bool S, .int .i64 H, .int .i64 L, .int .i64 b]] w fun e w' => e = .returned (.string ⟨(pT S H L b).toArray⟩) ∧ Below w.heap.size w w' := by
  have eH := ofJ H hT.2.1
  have eL := ofJ L hT.2.2.1
  unfold pT
  cases hp : pokB S (BitVec.ofInt 64 H) (BitVec.ofInt 64 L) b
  · have := sPText_no S (BitVec.ofInt 64 H) (BitVec.ofInt 64 L) b hp w
    rw [eH, eL] at this
    exact this
  · have := sPText_yes S (BitVec.ofInt 64 H) (BitVec.ofInt 64 L) b (tA S H L) _ hb.1 hb.2 (tA_len _ _ _) (decs_len b) rfl (by rw [eH, eL]; exact fun w => sAddr_tA S H L hT.1 w) hp w
    rw [eH, eL] at this
    exact this
theorem sSplit47 (l : List UInt8) (w : World) (hs : l.length ≤ 2000000) :
    Calls Tryd.prog 38 #[.string ⟨l.toArray⟩, .int .u8 47] w fun e w' => ∃ a c, e = .returned (.slice a (splA 47 [] l).length c) ∧ OwnG KS 9 w' w.heap.size (.slice a (splA 47 [] l).length c) (splA 47 [] l) ∧ Below w.heap.size w w' :=
  sSplit_big ⟨l.toArray⟩ 47 w (by show l.toArray.size ≤ _; simpa using hs)

end Go.Proofs.YtofnnpjadehgmaaDoor
