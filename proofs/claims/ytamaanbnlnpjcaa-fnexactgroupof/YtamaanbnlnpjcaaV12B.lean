/-
  The byte of a row of right Ids, by both.
-/
import Derived.Test.YtamaanbnlnpjcaaV12G
namespace Go.Proofs.Ytamaanbnlnpjcaa
open Go.ChangeShapes Go.WideShapes Go.ChangeAt Go.RowKit Go.Joins Go.Deep

/-- One Id's bit put to what is there. -/
def orI (z q : Int) : Int := bits .or .u8 z (2 ^ (q - 1).toNat)
def orS (z q : Int) : Int := bits .or .i64 z (2 ^ (q - 1).toNat)
def byI (z : Int) : List Int → Int
  | [] => z
  | q :: t => byI (orI z q) t
theorem or_all : ∀ (k : Fin 7) (z : Fin 128), bits .or .i64 (z.val : Int) (2 ^ k.val) = bits .or .u8 (z.val : Int) (2 ^ k.val) ∧ 0 ≤ bits .or .u8 (z.val : Int) (2 ^ k.val) ∧ bits .or .u8 (z.val : Int) (2 ^ k.val) ≤ 127 := of_decide_eq_true (by kernel_rfl)
theorem or_one {z q : Int} (h0 : 0 ≤ z) (h1 : z ≤ 127) (h2 : 1 ≤ q) (h3 : q ≤ 7) : orS z q = orI z q ∧ 0 ≤ orI z q ∧ orI z q ≤ 127 := by
  have h := or_all ⟨(q - 1).toNat, by omega⟩ ⟨z.toNat, by omega⟩
  have e : ((z.toNat : Nat) : Int) = z := by omega
  unfold orS orI
  simp only [e] at h
  exact h
theorem byI_small : ∀ (ps : List Int) (z : Int), 0 ≤ z → z ≤ 127 → (∀ q ∈ ps, 1 ≤ q ∧ q ≤ 7) → 0 ≤ byI z ps ∧ byI z ps ≤ 127
  | [], z, h0, h1, _ => ⟨h0, h1⟩
  | q :: t, z, h0, h1, h => by
      obtain ⟨h2, h3⟩ := h q (List.mem_cons_self)
      obtain ⟨_, a, b⟩ := or_one h0 h1 h2 h3
      exact byI_small t _ a b (fun x hx => h x (List.mem_cons_of_mem _ hx))
theorem ids_in : ∀ (ps : List Int) (l : Int), 0 ≤ l → idsB l ps = true → ∀ q ∈ ps, 1 ≤ q ∧ q ≤ 7
  | [], _, _, _, q, hq => by cases hq
  | p :: t, l, h0, h, q, hq => by
      unfold idsB at h
      simp only [Bool.and_eq_true, decide_eq_true_eq] at h
      rcases List.mem_cons.1 hq with rfl | hq
      · omega
      · exact ids_in t p (by omega) h.2 q hq
theorem retU8 {a b : Int} (h : a = b) : Ending.returned (.int .u8 a) = .returned (.int .u8 b) := by rw [h]
theorem seven {q : Int} (h : 1 ≤ q ∧ q ≤ 7) : q = 1 ∨ q = 2 ∨ q = 3 ∨ q = 4 ∨ q = 5 ∨ q = 6 ∨ q = 7 := by omega

set_option maxHeartbeats 4000000 in
theorem l12Bits_any (a : Option Addr) (n c : Nat) (ps : List Int) (w : World) (hn : n = ps.length) (hB : RowG KI w a ps) (hl : n ≤ 1048576) (hq : ∀ q ∈ ps, 1 ≤ q ∧ q ≤ 7) :
    Calls Try.prog 101 #[.slice a n c] w fun e w' => e = .returned (.int .u8 (byI 0 ps)) ∧ Below w.heap.size w w' := by
  have HB := hidP hB
  have HN := hidP hn
  have HQ := hidP hq
  clear hB hn hq
  go_enter Try.func101, Try.ntmps101
  go_wp2
  go_loop [3, 4] (fun t3 t4 => ∃ (k : Nat) (z : Int), k ≤ n ∧ t4 = .int .i64 k ∧ t3 = .int .i64 z ∧ 0 ≤ z ∧ z ≤ 127 ∧ byI 0 ps = byI z (ps.drop k)) (fun _ t4 => n - (intOf t4).toNat)
  case atStart => exact ⟨0, 0, Nat.zero_le _, rfl, rfl, by omega, by omega, rfl⟩
  case round =>
    obtain ⟨k, z, hk, rfl, rfl, z0, z1, hpo⟩ := hrel
    by_cases hlt : k < n
    · obtain ⟨p, o, q, rfl, hp, hq, c0⟩ := rowI HB.out k (by rw [← HN.out]; exact hlt)
      rw [dropI hq] at hpo
      have hpo' : byI 0 ps = byI (orI z q) (ps.drop (k + 1)) := hpo
      have h7 := HQ.out q (List.mem_of_getElem? hq)
      have ho := or_one z0 z1 h7.1 h7.2
      rw [← ho.1] at hpo' ho
      have HO := hidP ho
      have HPo := hidP hpo'
      clear hpo hpo' hq ho
      rcases seven h7 with rfl | rfl | rfl | rfl | rfl | rfl | rfl
      all_goals
        clear h7
        go_wp2
        go_round
        case rel => exact ⟨k + 1, _, by omega, by go_num, rfl, HO.out.2.1, HO.out.2.2, HPo.out⟩
        case measure => simp [intOf]; omega
    · have HF : Hid (byI 0 ps = z) := by
        rw [List.drop_of_length_le (by have := HN.out; omega)] at hpo
        exact hidP hpo
      have ez : IntKind.u8.wrap z = z := by rw [IntKind.wrap_u8]; omega
      clear hpo
      go_wp2
      go_ret
      exact ⟨retU8 (by first | exact HF.out.symm | (rw [HF.out]; done) | (rw [HF.out]; exact ez)), Below.refl _ _⟩

theorem own_two (w : World) (B : Nat) (x y : Int) (hB : B ≤ w.heap.size) : OwnG KBy 5 (w.alloc (.cells #[.int .u8 x, .int .u8 y] 5)) B (.slice (some ⟨w.heap.size, 0, none⟩) 2 2) [x, y] :=
  ⟨rfl, Or.inr ⟨w.heap.size, 2, _, rfl, hB, heap_alloc_new w _, Nat.le_refl _, by unfold maxLen; omega, rfl, rfl⟩⟩

end Go.Proofs.Ytamaanbnlnpjcaa
