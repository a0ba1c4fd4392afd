/-
  The byte of a row of right Ids, by both.
-/
import Derived.Test.YtmfbmnpfgbenmaaZW5
import Derived.Test.YtmfbmnpfgbenmaaZW3
import Derived.Test.YtmfbmnpfgbenmaaChecked
import GoSem.Claim
import GoSem.ClaimJoined
import GoSem.ClaimMapViews
import Derived.JoinedTies
import Derived.KernelRfl
import Derived.WalkKit
import Derived.WalkSpells
import Derived.WalkLawsBesides
import Derived.Deep.AppendSrc
import Derived.OwnWalk
import Derived.Deep.RegionWith
import Derived.Deep.DeepCutAuto
import Derived.Deep.QuietTactic
import Derived.BigQuiet
import Derived.Deep.AppendLies
import Derived.Carry
import Derived.Deep.Slices
import Derived.Deep.RegionHeld3
import Derived.ChangeMaps5
import Derived.Lib.SmallJoins
import Derived.Lib.SliceRun
import Derived.Test.YtmfbmnpfgbenmaaZW1
namespace Go.Proofs.Ytmfbmnpfgbenmaa
open Go.ChangeShapes Go.WideShapes Go.ChangeAt Go.RowKit Go.Joins Go.Deep

/-- One Id's bit put to what is there. -/
def orI (z q : Int) : Int := bits .or .u8 z (2 ^ (q - 1).toNat)
def orS (z q : Int) : Int := bits .or .i64 z (2 ^ (q - 1).toNat)
def byI (z : Int) : List Int → Int
  | [] => z
  | q :: t => byI (orI z q) t
theorem or_all : ∀ (k : Fin 7) (z : Fin 128), bits .or .i64 (z.val : Int) (2 ^ k.val) = bits .or .u8 (z.val : Int) (2 ^ k.val) ∧ 0 ≤ bits .or .u8 (z.val : Int) (2 ^ k.val) ∧ bits .or .u8 (z.val : Int) (2 ^ k.val) ≤ 127 := of_decide_eq_true (by kernel_rfl)
theorem or_one {z q : Int} (h0 : 0 ≤ z) (h1 : z ≤ 127) (h2 : 1 ≤ q) (h3 : q ≤ 7) : orS z q = orI z q ∧ 0 ≤ orI z q ∧ orI z q ≤ 127 := by
  have h := or_all ⟨(q - 1).toNat, by omega⟩ ⟨z.toNat, by omega⟩
  have e : ((z.toNat : Nat) : Int) = z := by omega
  unfold orS orI
  simp only [e] at h
  exact h
theorem ids_in : ∀ (ps : List Int) (l : Int), 0 ≤ l → idsB l ps = true → ∀ q ∈ ps, 1 ≤ q ∧ q ≤ 7
  | [], _, _, _, q, hq => by cases hq
  | p :: t, l, h0, h, q, hq => by
      unfold idsB at h
      simp only [Bool.and_eq_true, decide_eq_true_eq] at h
      rcases List.mem_cons.1 hq with rfl | hq
      · omega
      · exact ids_in t p (by omega) h.2 q hq
theorem retU8 {a b : Int} (h : a = b) : Ending.returned (.int .u8 a) = .returned (.int .u8 b) := by rw [h]
theorem seven {q : Int} (h : 1 ≤ q ∧ q ≤ 7) : q = 1 ∨ q = 2 ∨ q = 3 ∨ q = 4 ∨ q = 5 ∨ q = 6 ∨ q = 7 := by omega

set_option maxHeartbeats 4000000 in
theorem l12Bits_any (a : Option Addr) (n c : Nat) (ps : List Int) (w : World) (hn : n = ps.length) (hB : RowG KI w a ps) (hl : n ≤ 1048576) (hq : ∀ q ∈ ps, 1 ≤ q ∧ q ≤ 7) :
    Calls Try.prog 144 #[.slice a n c] w fun e w' => e = .returned (.int .u8 (byI 0 ps)) ∧ Below w.heap.size w w' := by
  have HB := hidP hB
  have HN := hidP hn
  have HQ := hidP hq
  clear hB hn hq
  go_enter Try.func144, Try.ntmps144
  go_wp2
  go_loop [3, 4] (fun t3 t4 => ∃ (k : Nat) (z : Int), k ≤ n ∧ t4 = .int .i64 k ∧ t3 = .int .i64 z ∧ 0 ≤ z ∧ z ≤ 127 ∧ byI 0 ps = byI z (ps.drop k)) (fun _ t4 => n - (intOf t4).toNat)
  case atStart => exact ⟨0, 0, Nat.zero_le _, rfl, rfl, by omega, by omega, rfl⟩
  case round =>
    obtain ⟨k, z, hk, rfl, rfl, z0, z1, hpo⟩ := hrel
    by_cases hlt : k < n
    · obtain ⟨p, o, q, rfl, hp, hq, c0⟩ := rowI HB.out k (by rw [← HN.out]; exact hlt)
      rw [dropI hq] at hpo
      have hpo' : byI 0 ps = byI (orI z q) (ps.drop (k + 1)) := hpo
      have h7 := HQ.out q (List.mem_of_getElem? hq)
      have ho := or_one z0 z1 h7.1 h7.2
      rw [← ho.1] at hpo' ho
      have HO := hidP ho
      have HPo := hidP hpo'
      clear hpo hpo' hq ho
      rcases seven h7 with rfl | rfl | rfl | rfl | rfl | rfl | rfl
      all_goals
        clear h7
        go_wp2
        go_round
        case rel => exact ⟨k + 1, _, by omega, by go_num, rfl, HO.out.2.1, HO.out.2.2, HPo.out⟩
        case measure => simp [intOf]; omega
    · have HF : Hid (byI 0 ps = z) := by
        rw [List.drop_of_length_le (by have := HN.out; omega)] at hpo
        exact hidP hpo
      have ez : IntKind.u8.wrap z = z := by rw [IntKind.wrap_u8]; omega
      clear hpo
      go_wp2
      go_ret
      exact ⟨retU8 (by first | exact HF.out.symm | (rw [HF.out]; done) | (rw [HF.out]; exact ez)), Below.refl _ _⟩

theorem own_two (w : World) (B : Nat) (x y : Int) (hB : B ≤ w.heap.size) : OwnG KBy 5 (w.alloc (.cells #[.int .u8 x, .int .u8 y] 5)) B (.slice (some ⟨w.heap.size, 0, none⟩) 2 2) [x, y] :=
  ⟨rfl, Or.inr ⟨w.heap.size, 2, _, rfl, hB, heap_alloc_new w _, Nat.le_refl _, by unfold maxLen; omega, rfl, rfl⟩⟩

end Go.Proofs.Ytmfbmnpfgbenmaa

/-
  Rows of Ids out of a byte, by both.
-/
namespace Go.Proofs.Ytmfbmnpfgbenmaa
open Go.ChangeShapes Go.WideShapes Go.ChangeAt Go.RowKit Go.Joins Go.Deep

/-- The program's row: bit by bit, from the least, until nothing is left. -/
def ofB : Nat → Nat → Nat → List Int
  | 0, _, _ => []
  | f + 1, z, i => if z = 0 then [] else (if z % 2 = 1 then [(i : Int)] else []) ++ ofB f (z / 2) (i + 1)
/-- The specification's row: each of seven bits. -/
def lsB : Nat → Nat → Nat → List Int
  | 0, _, _ => []
  | f + 1, z, i => (if z / 2 ^ (i - 1) % 2 = 1 then [(i : Int)] else []) ++ lsB f z (i + 1)
theorem ofB_zero (f i : Nat) : ofB f 0 i = [] := by cases f <;> simp [ofB]
theorem ofB_odd {f z i : Nat} (h0 : ¬ z = 0) (h1 : z % 2 = 1) : ofB (f + 1) z i = (i : Int) :: ofB f (z / 2) (i + 1) := by simp [ofB, h0, h1]
theorem ofB_even {f z i : Nat} (h0 : ¬ z = 0) (h1 : ¬ z % 2 = 1) : ofB (f + 1) z i = ofB f (z / 2) (i + 1) := by simp [ofB, h0, h1]
theorem lsB_yes {f z i : Nat} (h1 : z / 2 ^ (i - 1) % 2 = 1) : lsB (f + 1) z i = (i : Int) :: lsB f z (i + 1) := by simp [lsB, h1]
theorem lsB_no {f z i : Nat} (h1 : ¬ z / 2 ^ (i - 1) % 2 = 1) : lsB (f + 1) z i = lsB f z (i + 1) := by simp [lsB, h1]
theorem and_one : ∀ z : Fin 256, bits .and .u8 (z.val : Int) 1 = ((z.val % 2 : Nat) : Int) := of_decide_eq_true (by kernel_rfl)
theorem and_one' {z : Nat} (h : z < 256) : bits .and .u8 (z : Int) 1 = ((z % 2 : Nat) : Int) := and_one ⟨z, h⟩
theorem retSl {a : Option Addr} {n m c : Nat} (h : n = m) : Ending.returned (.slice a n c) = .returned (.slice a m c) := by rw [h]
theorem own_oneI (w : World) (q : Int) : OwnG KI 3 (w.alloc (.cells #[.int .i64 q] 3)) w.heap.size (.slice (some ⟨w.heap.size, 0, none⟩) 1 1) [q] := own_oneG KI w w.heap.size 3 q (Nat.le_refl _)

def Stp (p : Prop) : Prop := p
theorem stp {p : Prop} (h : Stp p) : p := h

set_option maxRecDepth 10000 in
set_option maxHeartbeats 4000000 in
theorem idsOfByte_any (Z : Nat) (hZ : Z < 256) (w : World) :
    Calls Try.prog 157 #[.int .u8 (Z : Int)] w fun e w' => ∃ a c, e = .returned (.slice a (ofB 8 Z 1).length c) ∧ OwnG KI 3 w' w.heap.size (.slice a (ofB 8 Z 1).length c) (ofB 8 Z 1) ∧ Below w.heap.size w w' := by
  have HZ := hidP (own_zeroG KI w w.heap.size 3 (Nat.le_refl _))
  have HZB := hidP (alloc_below w (.cells #[] 3))
  obtain ⟨L, hL⟩ : ∃ L, L = (ofB 8 Z 1) := ⟨_, rfl⟩
  rw [← hL]
  have HL := hidP hL
  clear hL
  go_enter Try.func157, Try.ntmps157
  go_wp2_with fail
  generalize w.alloc (.cells #[] 3) = W1 at *
  go_loopw [0, 3, 4] (fun t0 t3 t4 wr => ∃ (j z : Nat) (a : Option Addr) (n c : Nat) (xs : List Int), j ≤ 8 ∧ z < 2 ^ (8 - j) ∧ t0 = .int .u8 (z : Int) ∧ t3 = .slice a n c ∧ t4 = .int .i64 ((j : Int) + 1) ∧ n = xs.length ∧ n ≤ j ∧ xs ++ ofB (8 - j) z (j + 1) = ofB 8 Z 1 ∧ OwnG KI 3 wr w.heap.size (.slice a n c) xs ∧ Below w.heap.size w wr) (fun _ _ t4 _ => 9 - (intOf t4).toNat)
  case atStart => exact ⟨0, Z, _, 0, 0, [], by omega, hZ, rfl, rfl, rfl, rfl, by omega, rfl, HZ.out, HZB.out⟩
  case round =>
    obtain ⟨j, z, a, n, c, xs, hj, hz, rfl, rfl, rfl, hn, hnj, hpo, hown, hbel⟩ := hrel
    have HO := hidP hown
    have HBel := hidP hbel
    have HPo := hidP hpo
    have HNn := hidP hn
    clear hown hbel hpo hn
    by_cases hz0 : z = 0
    · subst hz0
      have HX : Hid (xs = L) := hidP (by have := HPo.out; rw [ofB_zero, List.append_nil] at this; rw [this, HL.out])
      go_wp2_with fail
      go_ret
      have e1 := HX.out
      have e2 := HNn.out
      have o1 := HO.out
      rw [e1] at e2 o1
      rw [e2] at o1
      exact ⟨a, c, retSl e2, o1, HBel.out⟩
    · have hj8 : j < 8 := by
        rcases Nat.lt_or_ge j 8 with h | h
        · exact h
        · have : 8 - j = 0 := by omega
          rw [this] at hz; simp at hz; omega
      obtain ⟨f, hf⟩ : ∃ f, 8 - j = f + 1 := ⟨7 - j, by omega⟩
      have hz' : z / 2 < 2 ^ (8 - (j + 1)) := by
        have e1 : 8 - (j + 1) = f := by omega
        rw [hf, Nat.pow_succ] at hz
        rw [e1]; omega
      have hz256 : z < 256 := by
        have : (2 : Nat) ^ (8 - j) ≤ 2 ^ 8 := Nat.pow_le_pow_right (by omega) (by omega)
        omega
      have ha := and_one' hz256
      have hd : decide ((0 : Int) < (z : Int)) = true := decide_eq_true (by omega)
      have hd2 : (0 : Int) < (z : Int) := by omega
      have hpo := HPo.out
      rw [hf] at hpo
      have hfj : f = 8 - (j + 1) := by omega
      by_cases h1 : z % 2 = 1
      · rw [ofB_odd hz0 h1, hfj] at hpo
        have HPn : Hid ((xs ++ [((j + 1 : Nat) : Int)]) ++ ofB (8 - (j + 1)) (z / 2) (j + 1 + 1) = ofB 8 Z 1) := hidP (by rw [List.append_assoc]; exact hpo)
        rw [h1] at ha
        have HQ := hidP (own_oneI wr ((j : Int) + 1))
        have HZ1 := hidP hz'
        clear hpo hf hfj hz hz' HZ HZB
        go_wp2_with (at_builtin; refine stp ?_)
        unfold Stp
        refine wpList_appG Try.tyI _ rfl (.tmp 13) (.tmp 15) 22 rfl w.heap.size a n c 1 xs [(j : Int) + 1] (.slice (some ⟨wr.heap.size, 0, none⟩) 1 1) rfl HNn.out rfl (OwnG.alloc HO.out _) rfl (src_rowG Try.tyI.1 1 1 (by show 0 < 1; omega) rfl HQ.out.row (fun h => by cases h)) (by omega) (by have := HBel.out.size; simp; omega) ?_
        intro a9 c9 w9 ho9 hg9 ht9
        have HF := hidP (And.intro ho9 (below_appG (HBel.out.alloc HBel.out.size _) (OwnG.alloc HO.out _) (by have := HBel.out.size; simp; omega) hg9))
        clear ho9 hg9 ht9
        go_wp2_with fail
        go_roundw
        case rel => exact ⟨j + 1, z / 2, a9, n + 1, c9, xs ++ [(j : Int) + 1], by omega, HZ1.out, by go_num, rfl, by go_num, by rw [List.length_append, ← HNn.out]; rfl, by omega, HPn.out, HF.out.1, HF.out.2⟩
        case measure => simp [intOf]; omega
      · rw [ofB_even hz0 h1, hfj] at hpo
        have h2 : z % 2 = 0 := by omega
        rw [h2] at ha
        have HPn := hidP hpo
        have HZ1 := hidP hz'
        clear hpo hf hfj hz hz' HZ HZB
        go_wp2_with fail
        go_roundw
        case rel => exact ⟨j + 1, z / 2, a, n, c, xs, by omega, HZ1.out, by go_num, rfl, by go_num, HNn.out, by omega, HPn.out, HO.out, HBel.out⟩
        case measure => simp [intOf]; omega

set_option maxRecDepth 10000 in
set_option maxHeartbeats 4000000 in
theorem l12List_any (Z : Nat) (hZ : Z < 256) (w : World) :
    Calls Try.prog 128 #[.int .u8 (Z : Int)] w fun e w' => ∃ a c, e = .returned (.slice a (lsB 7 Z 1).length c) ∧ OwnG KI 3 w' w.heap.size (.slice a (lsB 7 Z 1).length c) (lsB 7 Z 1) ∧ Below w.heap.size w w' := by
  have HZ := hidP (own_zeroG KI w w.heap.size 3 (Nat.le_refl _))
  have HZB := hidP (alloc_below w (.cells #[] 3))
  obtain ⟨L, hL⟩ : ∃ L, L = (lsB 7 Z 1) := ⟨_, rfl⟩
  rw [← hL]
  have HL := hidP hL
  clear hL
  go_enter Try.func128, Try.ntmps128
  go_wp2_with fail
  generalize w.alloc (.cells #[] 3) = W1 at *
  go_loopw [3, 4] (fun t3 t4 wr => ∃ (j : Nat) (a : Option Addr) (n c : Nat) (xs : List Int), j ≤ 7 ∧ t3 = .slice a n c ∧ t4 = .int .i64 ((j : Int) + 1) ∧ n = xs.length ∧ n ≤ j ∧ xs ++ lsB (7 - j) Z (j + 1) = lsB 7 Z 1 ∧ OwnG KI 3 wr w.heap.size (.slice a n c) xs ∧ Below w.heap.size w wr) (fun _ t4 _ => 9 - (intOf t4).toNat)
  case atStart => exact ⟨0, _, 0, 0, [], by omega, rfl, rfl, rfl, by omega, rfl, HZ.out, HZB.out⟩
  case round =>
    obtain ⟨j, a, n, c, xs, hj, rfl, rfl, hn, hnj, hpo, hown, hbel⟩ := hrel
    have HO := hidP hown
    have HBel := hidP hbel
    have HPo := hidP hpo
    have HNn := hidP hn
    clear hown hbel hpo hn
    by_cases hj7 : j = 7
    · subst hj7
      have HX : Hid (xs = L) := hidP (by have := HPo.out; rw [show lsB (7 - 7) Z (7 + 1) = [] from rfl, List.append_nil] at this; rw [this, HL.out])
      go_wp2_with fail
      go_ret
      have e1 := HX.out
      have e2 := HNn.out
      have o1 := HO.out
      rw [e1] at e2 o1
      rw [e2] at o1
      exact ⟨a, c, retSl e2, o1, HBel.out⟩
    · have hc : j = 0 ∨ j = 1 ∨ j = 2 ∨ j = 3 ∨ j = 4 ∨ j = 5 ∨ j = 6 := by omega
      have hd : decide ((j : Int) + 1 ≤ 7) = true := decide_eq_true (by omega)
      obtain ⟨f, hf⟩ : ∃ f, 7 - j = f + 1 := ⟨6 - j, by omega⟩
      have hfj : f = 7 - (j + 1) := by omega
      have hpo := HPo.out
      rw [hf] at hpo
      have hlt : Z / 2 ^ j < 256 := Nat.lt_of_le_of_lt (Nat.div_le_self _ _) hZ
      have ha := and_one' hlt
      by_cases h1 : Z / 2 ^ j % 2 = 1
      · rw [lsB_yes (i := j + 1) (by simpa using h1), hfj] at hpo
        have HPn : Hid ((xs ++ [((j + 1 : Nat) : Int)]) ++ lsB (7 - (j + 1)) Z (j + 1 + 1) = lsB 7 Z 1) := hidP (by rw [List.append_assoc]; exact hpo)
        rw [h1] at ha
        have HQ := hidP (own_oneI wr ((j : Int) + 1))
        clear hpo hf hfj HZ HZB h1 hlt
        rcases hc with rfl | rfl | rfl | rfl | rfl | rfl | rfl
        all_goals
          simp at ha
          go_wp2_with (at_builtin; refine stp ?_)
          unfold Stp
          refine wpList_appG Try.tyI _ rfl (.tmp 17) (.tmp 19) 22 rfl w.heap.size a n c 1 xs [_] (.slice (some ⟨wr.heap.size, 0, none⟩) 1 1) rfl HNn.out rfl (OwnG.alloc HO.out _) rfl (src_rowG Try.tyI.1 1 1 (by show 0 < 1; omega) rfl HQ.out.row (fun h => by cases h)) (by omega) (by have := HBel.out.size; simp; omega) ?_
          intro a9 c9 w9 ho9 hg9 ht9
          have HF := hidP (And.intro ho9 (below_appG (HBel.out.alloc HBel.out.size _) (OwnG.alloc HO.out _) (by have := HBel.out.size; simp; omega) hg9))
          clear ho9 hg9 ht9
          go_wp2_with fail
          go_roundw
          case rel => exact ⟨_, a9, n + 1, c9, _, by omega, rfl, by go_num, by rw [List.length_append, ← HNn.out]; rfl, by omega, HPn.out, HF.out.1, HF.out.2⟩
          case measure => simp [intOf]
      · rw [lsB_no (i := j + 1) (by simpa using h1), hfj] at hpo
        have h2 : Z / 2 ^ j % 2 = 0 := by omega
        rw [h2] at ha
        have HPn := hidP hpo
        clear hpo hf hfj HZ HZB h1 h2 hlt
        rcases hc with rfl | rfl | rfl | rfl | rfl | rfl | rfl
        all_goals
          simp at ha
          go_wp2_with fail
          go_roundw
          case rel => exact ⟨_, a, n, c, xs, by omega, rfl, by go_num, HNn.out, by omega, HPn.out, HO.out, HBel.out⟩
          case measure => simp [intOf]

end Go.Proofs.Ytmfbmnpfgbenmaa

/-
  Comparisons of two rows of bytes: the specification's own, the laws', the library's; nothing old turns.
-/
namespace Go.Proofs.Ytmfbmnpfgbenmaa
open Go.RowKit

set_option maxHeartbeats 1000000 in
theorem l3Same_any (a b : Option Addr) (c d : Nat) (xs ys : List Int) (w : World) (ha : Byt w a xs) (hb : Byt w b ys) (hl : xs.length ≤ 9000000000) (hm : ys.length ≤ 9000000000) :
    Calls Try.prog 129 #[.slice a xs.length c, .slice b ys.length d] w fun e w' => e = .returned (.bool (eqL xs ys)) ∧ Below w.heap.size w w' := by
  obtain ⟨n, hn⟩ : ∃ n, n = xs.length := ⟨_, rfl⟩
  obtain ⟨m, hmm⟩ : ∃ m, m = ys.length := ⟨_, rfl⟩
  rw [← hn, ← hmm]
  rw [← hn] at hl
  rw [← hmm] at hm
  by_cases hnm : n = m
  · subst hnm
    have HA : Hid (Byt w a xs) := ha
    have HB : Hid (Byt w b ys) := hb
    have HN : Hid (n = xs.length) := hn
    have HM : Hid (n = ys.length) := hmm
    clear ha hb hn hmm
    go_enter Try.func129, Try.ntmps129
    go_wp2
    go_loopw [5] (fun t5 wr => ∃ k : Nat, k ≤ n ∧ t5 = .int .i64 k ∧ (∀ j, j < k → xs[j]? = ys[j]?) ∧ Below w.heap.size w wr) (fun t5 _ => n - (intOf t5).toNat)
    case atStart => exact ⟨0, Nat.zero_le _, rfl, fun j hj => absurd hj (Nat.not_lt_zero j), Below.refl _ _⟩
    case round =>
      obtain ⟨k, hk, rfl, heq, hbel⟩ := hrel
      have HE : Hid (∀ j, j < k → xs[j]? = ys[j]?) := heq
      have HW : Hid (Below w.heap.size w wr) := hbel
      by_cases hlt : k < n
      · obtain ⟨p, o, x, rfl, hp, hc, hx⟩ := HA.out k (by rw [← HN.out]; exact hlt)
        obtain ⟨q, r, y, rfl, hq, hd, hy⟩ := HB.out k (by rw [← HM.out]; exact hlt)
        have c1 : wr.cell? ⟨p, o + k, none⟩ = some (.int .u8 x) := (hbel.cell hp).trans hc
        have c2 : wr.cell? ⟨q, r + k, none⟩ = some (.int .u8 y) := (hbel.cell hq).trans hd
        have HX : Hid (xs[k]? = some x) := hx
        have HY : Hid (ys[k]? = some y) := hy
        clear hc hd heq hbel hx hy
        by_cases hxy : x = y
        · subst hxy
          have hb1 : (x != x) = false := by simp
          go_wp2_with fail
          go_region
          all_goals
            go_wp2
            go_roundw
            case rel =>
              refine ⟨k + 1, by omega, by go_num, fun j hj => ?_, HW.out.drew⟩
              by_cases hjk : j = k
              · subst hjk; rw [HX.out, HY.out]
              · exact HE.out j (by omega)
            case measure => simp [intOf]; omega
        · have hb1 : (x != y) = true := by simp [hxy]
          have HF : Hid (eqL xs ys = false) := eqL_at k HX.out HY.out hxy
          clear hxy
          go_wp2_with fail
          go_region
          all_goals
            go_wp2
            go_ret
            rw [HF.out]
            exact ⟨rfl, HW.out.drew⟩
      · have HF : Hid (eqL xs ys = true) := eqL_all (by rw [← HN.out, ← HM.out]) (fun j hj => heq j (by have := HN.out; omega))
        clear heq hbel
        go_wp2
        go_ret
        rw [HF.out]
        exact ⟨rfl, HW.out⟩
  · have HF : Hid (eqL xs ys = false) := eqL_len (by rw [← hn, ← hmm]; exact hnm)
    have hq : ((n : Int) != (m : Int)) = true := by rw [bne_iff_ne]; omega
    clear ha hb hn hmm hnm
    go_enter Try.func129, Try.ntmps129
    go_wp2
    go_ret
    rw [HF.out]
    exact ⟨rfl, Below.refl _ _⟩

end Go.Proofs.Ytmfbmnpfgbenmaa

/-
  What the rows out of a byte are, for every byte; small rules on a region's worlds.
-/
namespace Go.Proofs.Ytmfbmnpfgbenmaa
open Go.ChangeShapes Go.WideShapes Go.ChangeAt Go.RowKit Go.Joins Go.Deep

theorem get_small : ∀ z : Fin 128, ofB 8 z.val 1 = lsB 7 z.val 1 ∧ idsB 0 (lsB 7 z.val 1) = true ∧ byI 0 (lsB 7 z.val 1) = (z.val : Int) ∧ decide (0 < (lsB 7 z.val 1).length) = decide (0 < z.val) := of_decide_eq_true (by kernel_rfl)
theorem get_big : ∀ z : Fin 128, idsB 0 (ofB 8 (128 + z.val) 1) = false ∧ idsB 0 (lsB 7 (128 + z.val) 1) = true ∧ byI 0 (lsB 7 (128 + z.val) 1) = (z.val : Int) := of_decide_eq_true (by kernel_rfl)
theorem ls_len : ∀ z : Fin 256, (ofB 8 z.val 1).length ≤ 8 ∧ (lsB 7 z.val 1).length ≤ 8 := of_decide_eq_true (by kernel_rfl)
theorem drew_cell (w : World) (a : Addr) : w.drew.cell? a = w.cell? a := rfl
theorem drew_frozen (w : World) (a : Addr) : w.drew.frozen? a = w.frozen? a := rfl
theorem drew_size_lt {w : World} {n : Nat} (h : n < w.heap.size) : n < w.drew.heap.size := h
theorem OwnG.put2 {α : Type} {K : Kd α} {t : TypeId} {w : World} {B x : Nat} {v u u' : Value} {ps : List α} (h : OwnG K t w B v ps) (hx : ∀ k, v.ownBlock = some k → k ≠ x) : OwnG K t ((w.setCell ⟨x, 0, none⟩ u).setCell ⟨x, 1, none⟩ u') B v ps :=
  OwnG.grown (OwnG.grown h (grown_cellG w x 0 u) (fun k hk e => hx k hk (by simpa using e.symm))) (grown_cellG _ x 1 u') (fun k hk e => hx k hk (by simpa using e.symm))
theorem boxZ2 (w : World) (t : TypeId) : (w.alloc (.cells #[.slice none 0 0, .slice none 0 0] t)).cell? ⟨w.heap.size, 0, none⟩ = some (.slice none 0 0) ∧ (w.alloc (.cells #[.slice none 0 0, .slice none 0 0] t)).cell? ⟨w.heap.size, 1, none⟩ = some (.slice none 0 0) := box2D w t _ _
theorem frzZ2 (w : World) (t : TypeId) (o : Nat) : (w.alloc (.cells #[.slice none 0 0, .slice none 0 0] t)).frozen? ⟨w.heap.size, o, none⟩ = false := frz2 w t _ _ o
/-- Whether two bytes are a group. -/
def gotB (x y : Nat) : Bool := decide (0 < x) && (decide (x < 128) && decide (y < 128))
theorem got_i (x y : Nat) (hx : x < 256) (hy : y < 256) : grB (ofB 8 x 1) (ofB 8 y 1) = gotB x y := by
  unfold grB gotB
  by_cases h1 : x < 128
  · obtain ⟨a1, a2, _, a4⟩ := get_small ⟨x, h1⟩
    simp only at a1 a2 a4
    rw [a1, a2, a4, decide_eq_true h1]
    by_cases h2 : y < 128
    · obtain ⟨b1, b2, _, _⟩ := get_small ⟨y, h2⟩
      simp only at b1 b2
      rw [b1, b2, decide_eq_true h2]; simp
    · obtain ⟨b1, _, _⟩ := get_big ⟨y - 128, by omega⟩
      rw [show 128 + (⟨y - 128, by omega⟩ : Fin 128).val = y by simp; omega] at b1
      rw [b1, decide_eq_false h2]; simp
  · obtain ⟨a1, _, _⟩ := get_big ⟨x - 128, by omega⟩
    rw [show 128 + (⟨x - 128, by omega⟩ : Fin 128).val = x by simp; omega] at a1
    rw [a1, decide_eq_false h1]; simp
theorem got_s (x y : Nat) (hx : x < 256) (hy : y < 256) : (grB (lsB 7 x 1) (lsB 7 y 1) && decide ([byI 0 (lsB 7 x 1), byI 0 (lsB 7 y 1)] = [(x : Int), (y : Int)])) = gotB x y := by
  unfold grB gotB
  by_cases h1 : x < 128
  · obtain ⟨_, a2, a3, a4⟩ := get_small ⟨x, h1⟩
    simp only at a2 a3 a4
    rw [a2, a3, a4, decide_eq_true h1]
    by_cases h2 : y < 128
    · obtain ⟨_, b2, b3, _⟩ := get_small ⟨y, h2⟩
      simp only at b2 b3
      rw [b2, b3, decide_eq_true h2]; simp
    · obtain ⟨_, b2, b3⟩ := get_big ⟨y - 128, by omega⟩
      rw [show 128 + (⟨y - 128, by omega⟩ : Fin 128).val = y by simp; omega] at b2 b3
      have hne : ¬ ([(x : Int), ((y - 128 : Nat) : Int)] = [(x : Int), (y : Int)]) := by simp; omega
      rw [b2, b3, decide_eq_false h2, decide_eq_false hne]; simp
  · obtain ⟨_, a2, a3⟩ := get_big ⟨x - 128, by omega⟩
    rw [show 128 + (⟨x - 128, by omega⟩ : Fin 128).val = x by simp; omega] at a2 a3
    have hne : ¬ ([((x - 128 : Nat) : Int), byI 0 (lsB 7 y 1)] = [(x : Int), (y : Int)]) := by simp; omega
    rw [a3, decide_eq_false h1, decide_eq_false hne]; simp

end Go.Proofs.Ytmfbmnpfgbenmaa

/-
  The program's GetGroup.
-/
namespace Go.Proofs.Ytmfbmnpfgbenmaa
open Go.ChangeShapes Go.WideShapes Go.ChangeAt Go.RowKit Go.Joins Go.Deep

set_option maxRecDepth 10000 in
set_option maxHeartbeats 1000000 in
theorem iGg_len (a : Option Addr) (n c : Nat) (hn : n ≠ 2) (w : World) :
    Calls Try.prog 145 #[.slice a n c] w fun e w' => ∃ a c b d, e = .returned (.tuple #[.agg #[.slice a 0 c, .slice b 0 d], .bool false]) ∧ OwnG KI 3 w' w.heap.size (.slice a 0 c) [] ∧ OwnG KI 3 w' w.heap.size (.slice b 0 d) [] ∧ (∀ k, (Value.slice a 0 c).ownBlock = some k → (Value.slice b 0 d).ownBlock ≠ some k) ∧ Below w.heap.size w w' := by
  have e1 : ((n : Int) == 2) = false := by simp; omega
  have e2 : ((n : Int) != 2) = true := by simp; omega
  go_enter Try.func145, Try.ntmps145
  go_wp2_with fail
  refine bodyPost_ret (v := .tuple #[.agg #[.slice none 0 0, .slice none 0 0], .bool false]) (by simp [results, Try.results145, go_sem]) rfl ⟨_, _, _, _, rfl, own_noneG KI _ _ _, own_noneG KI _ _ _, (fun k h1 => by cases h1), ?_⟩
  repeat (first | with_reducible exact Below.refl _ _ | (with_reducible refine Below.alloc ?_ ?_ _; rotate_left; (focus (first | omega | (simp; omega) | (simp; done)))) | (with_reducible refine Below.setCell ?_ ?_ _; rotate_left; (focus (first | omega | (simp; omega) | (simp; done)))))

end Go.Proofs.Ytmfbmnpfgbenmaa
