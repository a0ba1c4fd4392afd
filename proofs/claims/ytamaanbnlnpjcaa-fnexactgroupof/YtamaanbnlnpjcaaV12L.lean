/-
  Rows of Ids out of a byte, by both.
-/
import Derived.Test.YtamaanbnlnpjcaaV12B
namespace Go.Proofs.Ytamaanbnlnpjcaa
open Go.ChangeShapes Go.WideShapes Go.ChangeAt Go.RowKit Go.Joins Go.Deep

/-- The program's row: bit by bit, from the least, until nothing is left. -/
def ofB : Nat → Nat → Nat → List Int
  | 0, _, _ => []
  | f + 1, z, i => if z = 0 then [] else (if z % 2 = 1 then [(i : Int)] else []) ++ ofB f (z / 2) (i + 1)
/-- The specification's row: each of seven bits. -/
def lsB : Nat → Nat → Nat → List Int
  | 0, _, _ => []
  | f + 1, z, i => (if z / 2 ^ (i - 1) % 2 = 1 then [(i : Int)] else []) ++ lsB f z (i + 1)
theorem ofB_zero (f i : Nat) : ofB f 0 i = [] := by cases f <;> simp [ofB]
theorem ofB_odd {f z i : Nat} (h0 : ¬ z = 0) (h1 : z % 2 = 1) : ofB (f + 1) z i = (i : Int) :: ofB f (z / 2) (i + 1) := by simp [ofB, h0, h1]
theorem ofB_even {f z i : Nat} (h0 : ¬ z = 0) (h1 : ¬ z % 2 = 1) : ofB (f + 1) z i = ofB f (z / 2) (i + 1) := by simp [ofB, h0, h1]
theorem lsB_yes {f z i : Nat} (h1 : z / 2 ^ (i - 1) % 2 = 1) : lsB (f + 1) z i = (i : Int) :: lsB f z (i + 1) := by simp [lsB, h1]
theorem lsB_no {f z i : Nat} (h1 : ¬ z / 2 ^ (i - 1) % 2 = 1) : lsB (f + 1) z i = lsB f z (i + 1) := by simp [lsB, h1]
theorem and_one : ∀ z : Fin 256, bits .and .u8 (z.val : Int) 1 = ((z.val % 2 : Nat) : Int) := of_decide_eq_true (by kernel_rfl)
theorem and_one' {z : Nat} (h : z < 256) : bits .and .u8 (z : Int) 1 = ((z % 2 : Nat) : Int) := and_one ⟨z, h⟩
theorem retSl {a : Option Addr} {n m c : Nat} (h : n = m) : Ending.returned (.slice a n c) = .returned (.slice a m c) := by rw [h]
theorem own_oneI (w : World) (q : Int) : OwnG KI 3 (w.alloc (.cells #[.int .i64 q] 3)) w.heap.size (.slice (some ⟨w.heap.size, 0, none⟩) 1 1) [q] := own_oneG KI w w.heap.size 3 q (Nat.le_refl _)

def Stp (p : Prop) : Prop := p
theorem stp {p : Prop} (h : Stp p) : p := h

set_option maxRecDepth 10000 in
set_option maxHeartbeats 4000000 in
theorem idsOfByte_any (Z : Nat) (hZ : Z < 256) (w : World) :
    Calls Try.prog 79 #[.int .u8 (Z : Int)] w fun e w' => ∃ a c, e = .returned (.slice a (ofB 8 Z 1).length c) ∧ OwnG KI 3 w' w.heap.size (.slice a (ofB 8 Z 1).length c) (ofB 8 Z 1) ∧ Below w.heap.size w w' := by
  have HZ := hidP (own_zeroG KI w w.heap.size 3 (Nat.le_refl _))
  have HZB := hidP (alloc_below w (.cells #[] 3))
  obtain ⟨L, hL⟩ : ∃ L, L = (ofB 8 Z 1) := ⟨_, rfl⟩
  rw [← hL]
  have HL := hidP hL
  clear hL
  go_enter Try.func79, Try.ntmps79
  go_wp2_with fail
  generalize w.alloc (.cells #[] 3) = W1 at *
  go_loopw [0, 3, 4] (fun t0 t3 t4 wr => ∃ (j z : Nat) (a : Option Addr) (n c : Nat) (xs : List Int), j ≤ 8 ∧ z < 2 ^ (8 - j) ∧ t0 = .int .u8 (z : Int) ∧ t3 = .slice a n c ∧ t4 = .int .i64 ((j : Int) + 1) ∧ n = xs.length ∧ n ≤ j ∧ xs ++ ofB (8 - j) z (j + 1) = ofB 8 Z 1 ∧ OwnG KI 3 wr w.heap.size (.slice a n c) xs ∧ Below w.heap.size w wr) (fun _ _ t4 _ => 9 - (intOf t4).toNat)
  case atStart => exact ⟨0, Z, _, 0, 0, [], by omega, hZ, rfl, rfl, rfl, rfl, by omega, rfl, HZ.out, HZB.out⟩
  case round =>
    obtain ⟨j, z, a, n, c, xs, hj, hz, rfl, rfl, rfl, hn, hnj, hpo, hown, hbel⟩ := hrel
    have HO := hidP hown
    have HBel := hidP hbel
    have HPo := hidP hpo
    have HNn := hidP hn
    clear hown hbel hpo hn
    by_cases hz0 : z = 0
    · subst hz0
      have HX : Hid (xs = L) := hidP (by have := HPo.out; rw [ofB_zero, List.append_nil] at this; rw [this, HL.out])
      go_wp2_with fail
      go_ret
      have e1 := HX.out
      have e2 := HNn.out
      have o1 := HO.out
      rw [e1] at e2 o1
      rw [e2] at o1
      exact ⟨a, c, retSl e2, o1, HBel.out⟩
    · have hj8 : j < 8 := by
        rcases Nat.lt_or_ge j 8 with h | h
        · exact h
        · have : 8 - j = 0 := by omega
          rw [this] at hz; simp at hz; omega
      obtain ⟨f, hf⟩ : ∃ f, 8 - j = f + 1 := ⟨7 - j, by omega⟩
      have hz' : z / 2 < 2 ^ (8 - (j + 1)) := by
        have e1 : 8 - (j + 1) = f := by omega
        rw [hf, Nat.pow_succ] at hz
        rw [e1]; omega
      have hz256 : z < 256 := by
        have : (2 : Nat) ^ (8 - j) ≤ 2 ^ 8 := Nat.pow_le_pow_right (by omega) (by omega)
        omega
      have ha := and_one' hz256
      have hd : decide ((0 : Int) < (z : Int)) = true := decide_eq_true (by omega)
      have hd2 : (0 : Int) < (z : Int) := by omega
      have hpo := HPo.out
      rw [hf] at hpo
      have hfj : f = 8 - (j + 1) := by omega
      by_cases h1 : z % 2 = 1
      · rw [ofB_odd hz0 h1, hfj] at hpo
        have HPn : Hid ((xs ++ [((j + 1 : Nat) : Int)]) ++ ofB (8 - (j + 1)) (z / 2) (j + 1 + 1) = ofB 8 Z 1) := hidP (by rw [List.append_assoc]; exact hpo)
        rw [h1] at ha
        have HQ := hidP (own_oneI wr ((j : Int) + 1))
        have HZ1 := hidP hz'
        clear hpo hf hfj hz hz' HZ HZB
        go_wp2_with (at_builtin; refine stp ?_)
        unfold Stp
        refine wpList_appG Try.tyI _ rfl (.tmp 13) (.tmp 15) 24 rfl w.heap.size a n c 1 xs [(j : Int) + 1] (.slice (some ⟨wr.heap.size, 0, none⟩) 1 1) rfl HNn.out rfl (OwnG.alloc HO.out _) rfl (src_rowG Try.tyI.1 1 1 (by show 0 < 1; omega) rfl HQ.out.row (fun h => by cases h)) (by omega) (by have := HBel.out.size; simp; omega) ?_
        intro a9 c9 w9 ho9 hg9 ht9
        have HF := hidP (And.intro ho9 (below_appG (HBel.out.alloc HBel.out.size _) (OwnG.alloc HO.out _) (by have := HBel.out.size; simp; omega) hg9))
        clear ho9 hg9 ht9
        go_wp2_with fail
        go_roundw
        case rel => exact ⟨j + 1, z / 2, a9, n + 1, c9, xs ++ [(j : Int) + 1], by omega, HZ1.out, by go_num, rfl, by go_num, by rw [List.length_append, ← HNn.out]; rfl, by omega, HPn.out, HF.out.1, HF.out.2⟩
        case measure => simp [intOf]; omega
      · rw [ofB_even hz0 h1, hfj] at hpo
        have h2 : z % 2 = 0 := by omega
        rw [h2] at ha
        have HPn := hidP hpo
        have HZ1 := hidP hz'
        clear hpo hf hfj hz hz' HZ HZB
        go_wp2_with fail
        go_roundw
        case rel => exact ⟨j + 1, z / 2, a, n, c, xs, by omega, HZ1.out, by go_num, rfl, by go_num, HNn.out, by omega, HPn.out, HO.out, HBel.out⟩
        case measure => simp [intOf]; omega

set_option maxRecDepth 10000 in
set_option maxHeartbeats 4000000 in
theorem l12List_any (Z : Nat) (hZ : Z < 256) (w : World) :
    Calls Try.prog 95 #[.int .u8 (Z : Int)] w fun e w' => ∃ a c, e = .returned (.slice a (lsB 7 Z 1).length c) ∧ OwnG KI 3 w' w.heap.size (.slice a (lsB 7 Z 1).length c) (lsB 7 Z 1) ∧ Below w.heap.size w w' := by
  have HZ := hidP (own_zeroG KI w w.heap.size 3 (Nat.le_refl _))
  have HZB := hidP (alloc_below w (.cells #[] 3))
  obtain ⟨L, hL⟩ : ∃ L, L = (lsB 7 Z 1) := ⟨_, rfl⟩
  rw [← hL]
  have HL := hidP hL
  clear hL
  go_enter Try.func95, Try.ntmps95
  go_wp2_with fail
  generalize w.alloc (.cells #[] 3) = W1 at *
  go_loopw [3, 4] (fun t3 t4 wr => ∃ (j : Nat) (a : Option Addr) (n c : Nat) (xs : List Int), j ≤ 7 ∧ t3 = .slice a n c ∧ t4 = .int .i64 ((j : Int) + 1) ∧ n = xs.length ∧ n ≤ j ∧ xs ++ lsB (7 - j) Z (j + 1) = lsB 7 Z 1 ∧ OwnG KI 3 wr w.heap.size (.slice a n c) xs ∧ Below w.heap.size w wr) (fun _ t4 _ => 9 - (intOf t4).toNat)
  case atStart => exact ⟨0, _, 0, 0, [], by omega, rfl, rfl, rfl, by omega, rfl, HZ.out, HZB.out⟩
  case round =>
    obtain ⟨j, a, n, c, xs, hj, rfl, rfl, hn, hnj, hpo, hown, hbel⟩ := hrel
    have HO := hidP hown
    have HBel := hidP hbel
    have HPo := hidP hpo
    have HNn := hidP hn
    clear hown hbel hpo hn
    by_cases hj7 : j = 7
    · subst hj7
      have HX : Hid (xs = L) := hidP (by have := HPo.out; rw [show lsB (7 - 7) Z (7 + 1) = [] from rfl, List.append_nil] at this; rw [this, HL.out])
      go_wp2_with fail
      go_ret
      have e1 := HX.out
      have e2 := HNn.out
      have o1 := HO.out
      rw [e1] at e2 o1
      rw [e2] at o1
      exact ⟨a, c, retSl e2, o1, HBel.out⟩
    · have hc : j = 0 ∨ j = 1 ∨ j = 2 ∨ j = 3 ∨ j = 4 ∨ j = 5 ∨ j = 6 := by omega
      have hd : decide ((j : Int) + 1 ≤ 7) = true := decide_eq_true (by omega)
      obtain ⟨f, hf⟩ : ∃ f, 7 - j = f + 1 := ⟨6 - j, by omega⟩
      have hfj : f = 7 - (j + 1) := by omega
      have hpo := HPo.out
      rw [hf] at hpo
      have hlt : Z / 2 ^ j < 256 := Nat.lt_of_le_of_lt (Nat.div_le_self _ _) hZ
      have ha := and_one' hlt
      by_cases h1 : Z / 2 ^ j % 2 = 1
      · rw [lsB_yes (i := j + 1) (by simpa using h1), hfj] at hpo
        have HPn : Hid ((xs ++ [((j + 1 : Nat) : Int)]) ++ lsB (7 - (j + 1)) Z (j + 1 + 1) = lsB 7 Z 1) := hidP (by rw [List.append_assoc]; exact hpo)
        rw [h1] at ha
        have HQ := hidP (own_oneI wr ((j : Int) + 1))
        clear hpo hf hfj HZ HZB h1 hlt
        rcases hc with rfl | rfl | rfl | rfl | rfl | rfl | rfl
        all_goals
          simp at ha
          go_wp2_with (at_builtin; refine stp ?_)
          unfold Stp
          refine wpList_appG Try.tyI _ rfl (.tmp 17) (.tmp 19) 24 rfl w.heap.size a n c 1 xs [_] (.slice (some ⟨wr.heap.size, 0, none⟩) 1 1) rfl HNn.out rfl (OwnG.alloc HO.out _) rfl (src_rowG Try.tyI.1 1 1 (by show 0 < 1; omega) rfl HQ.out.row (fun h => by cases h)) (by omega) (by have := HBel.out.size; simp; omega) ?_
          intro a9 c9 w9 ho9 hg9 ht9
          have HF := hidP (And.intro ho9 (below_appG (HBel.out.alloc HBel.out.size _) (OwnG.alloc HO.out _) (by have := HBel.out.size; simp; omega) hg9))
          clear ho9 hg9 ht9
          go_wp2_with fail
          go_roundw
          case rel => exact ⟨_, a9, n + 1, c9, _, by omega, rfl, by go_num, by rw [List.length_append, ← HNn.out]; rfl, by omega, HPn.out, HF.out.1, HF.out.2⟩
          case measure => simp [intOf]
      · rw [lsB_no (i := j + 1) (by simpa using h1), hfj] at hpo
        have h2 : Z / 2 ^ j % 2 = 0 := by omega
        rw [h2] at ha
        have HPn := hidP hpo
        clear hpo hf hfj HZ HZB h1 h2 hlt
        rcases hc with rfl | rfl | rfl | rfl | rfl | rfl | rfl
        all_goals
          simp at ha
          go_wp2_with fail
          go_roundw
          case rel => exact ⟨_, a, n, c, xs, by omega, rfl, by go_num, HNn.out, by omega, HPn.out, HO.out, HBel.out⟩
          case measure => simp [intOf]

end Go.Proofs.Ytamaanbnlnpjcaa
