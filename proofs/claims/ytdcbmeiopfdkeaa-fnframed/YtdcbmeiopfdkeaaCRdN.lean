/-
  The reading of a number out of bytes, as plain mathematics: what was read and how many bytes it took, torn, or bad; the specification's GetNum by it.
-/
import Derived.Test.YtdcbmeiopfdkeaaCByt
namespace Go.Proofs.Ytdcbmeiopfdkeaa
open Go.RowKit

inductive Got where
  | good (x : Int) (k : Nat)
  | torn
  | bad

def acc (x c : Int) (k : Nat) : Int := bits .or .u64 x (IntKind.u64.wrap (c % 128 * 2 ^ (7 * k)))
def rdF (zs : List Int) (at' : Nat) : Nat → Nat → Int → Got
  | 0, _, _ => .bad
  | f + 1, k, x => match zs[at' + k]? with
    | none => .torn
    | some c => if 128 ≤ c then rdF zs at' f (k + 1) (acc x c k) else if (c = 0 ∧ 0 < k) ∨ (k = 9 ∧ 1 < c) then .bad else .good (acc x c k) (k + 1)
def rdN (zs : List Int) (at' : Nat) : Got := rdF zs at' 10 0 0

theorem rdF_none {zs : List Int} {at' f k : Nat} {x : Int} (h : zs[at' + k]? = none) : rdF zs at' (f + 1) k x = .torn := by rw [rdF, h]
theorem rdF_more {zs : List Int} {at' f k : Nat} {x c : Int} (h : zs[at' + k]? = some c) (hc : 128 ≤ c) : rdF zs at' (f + 1) k x = rdF zs at' f (k + 1) (acc x c k) := by
  rw [rdF, h]; simp only; rw [if_pos hc]
theorem rdF_bad {zs : List Int} {at' f k : Nat} {x c : Int} (h : zs[at' + k]? = some c) (hc : ¬ 128 ≤ c) (hb : (c = 0 ∧ 0 < k) ∨ (k = 9 ∧ 1 < c)) : rdF zs at' (f + 1) k x = .bad := by
  rw [rdF, h]; simp only; rw [if_neg hc, if_pos hb]
theorem rdF_good {zs : List Int} {at' f k : Nat} {x c : Int} (h : zs[at' + k]? = some c) (hc : ¬ 128 ≤ c) (hb : ¬ ((c = 0 ∧ 0 < k) ∨ (k = 9 ∧ 1 < c))) : rdF zs at' (f + 1) k x = .good (acc x c k) (k + 1) := by
  rw [rdF, h]; simp only; rw [if_neg hc, if_neg hb]

theorem acc_9 (x : Int) : acc x 1 9 = bits .or .u64 x 9223372036854775808 := by
  unfold acc; rw [IntKind.wrap_u64]; rfl

/-- What GetNum answers. -/
def gnV (zs : List Int) (a : Int) : Value := if a < 0 then .tuple #[.int .i64 0, .int .i64 0, .bool false] else match rdN zs a.toNat with
  | .good x k => .tuple #[.int .i64 (wrap64 x), .int .i64 (a + k), .bool true]
  | _ => .tuple #[.int .i64 0, .int .i64 0, .bool false]
theorem gnV_neg {zs : List Int} {a : Int} (h : a < 0) : gnV zs a = .tuple #[.int .i64 0, .int .i64 0, .bool false] := by unfold gnV; rw [if_pos h]
theorem gnV_good {zs : List Int} {at' : Nat} {x : Int} {k : Nat} (e : rdN zs at' = .good x k) : gnV zs (at' : Int) = .tuple #[.int .i64 (wrap64 x), .int .i64 ((at' : Int) + k), .bool true] := by
  unfold gnV; rw [if_neg (by omega), Int.toNat_natCast, e]
theorem gnV_torn {zs : List Int} {at' : Nat} (e : rdN zs at' = .torn) : gnV zs (at' : Int) = .tuple #[.int .i64 0, .int .i64 0, .bool false] := by
  unfold gnV; rw [if_neg (by omega), Int.toNat_natCast, e]
theorem gnV_bad {zs : List Int} {at' : Nat} (e : rdN zs at' = .bad) : gnV zs (at' : Int) = .tuple #[.int .i64 0, .int .i64 0, .bool false] := by
  unfold gnV; rw [if_neg (by omega), Int.toNat_natCast, e]

set_option maxHeartbeats 4000000 in
theorem sGetNum_any (a : Option Addr) (cap : Nat) (zs : List Int) (at' : Nat) (w : World) (hB : Byt w a zs) (ho : Oct zs) (hl : zs.length ≤ 9000000000) (ha : at' ≤ 9223372036854775807) :
    Calls Try.prog 30 #[.slice a zs.length cap, .int .i64 at'] w fun e w' => e = .returned (gnV zs at') ∧ w = w' := by
  obtain ⟨n, hn⟩ : ∃ n, n = zs.length := ⟨_, rfl⟩
  rw [← hn] at hl ⊢
  have HN := hid' hn
  have HB := hid' hB
  have HO := hid' ho
  clear hB hn ho
  generalize hV : gnV zs at' = V
  have HV := hid' hV
  clear hV
  go_enter Try.func30, Try.ntmps30
  go_wp2
  go_loop [7, 8] (fun t7 t8 => ∃ (k : Nat) (x : Int), k ≤ 10 ∧ t8 = .int .i64 k ∧ t7 = .int .u64 x ∧ rdF zs at' (10 - k) k x = rdN zs at') (fun _ t8 => 10 - (intOf t8).toNat)
  case atStart => exact ⟨0, 0, by omega, rfl, rfl, rfl⟩
  case round =>
    obtain ⟨k, x, hk, rfl, rfl, hr⟩ := hrel
    have HR := hid' hr
    clear hr
    by_cases h10 : k < 10
    · obtain ⟨f, hf⟩ : ∃ f, 10 - k = f + 1 := ⟨9 - k, by omega⟩
      by_cases hin : at' + k < n
      · have han : at' < n := by omega
        obtain ⟨p, o, c, rfl, hp, hc, hz⟩ := HB.out (at' + k) (by rw [← HN.out]; exact hin)
        obtain ⟨z0, z1⟩ := HO.out c (List.mem_of_getElem? hz)
        have HZ := hid' hz
        have i1 : (at' : Int) + (k : Int) < (n : Int) := by omega
        have hcc : w.cell? ⟨p, o + (at' + k), none⟩ = some (.int .u8 c) := hc
        clear hc hz hin
        by_cases h9 : k = 9
        · subst h9
          have hf0 : f = 0 := by omega
          subst hf0
          by_cases h1 : 1 < c
          · have HE : Hid (V = .tuple #[.int .i64 0, .int .i64 0, .bool false]) := by
              unfold Hid; rw [← HV.out]; refine gnV_bad ?_
              rw [← HR.out, hf]
              by_cases h128 : 128 ≤ c
              · rw [rdF_more HZ.out h128]; rfl
              · exact rdF_bad HZ.out h128 (Or.inr ⟨rfl, h1⟩)
            go_wp2
            refine bodyPost_ret (v := .tuple #[.int .i64 0, .int .i64 0, .bool false]) (by simp [results, Try.results30, go_sem]) rfl ⟨by rw [HE.out], rfl⟩
          · by_cases hc0 : c = 0
            · subst hc0
              have HE : Hid (V = .tuple #[.int .i64 0, .int .i64 0, .bool false]) := by
                unfold Hid; rw [← HV.out]; refine gnV_bad ?_
                rw [← HR.out, hf]
                exact rdF_bad HZ.out (by omega) (Or.inl ⟨rfl, by omega⟩)
              go_wp2
              refine bodyPost_ret (v := .tuple #[.int .i64 0, .int .i64 0, .bool false]) (by simp [results, Try.results30, go_sem]) rfl ⟨by rw [HE.out], rfl⟩
            · have hc1 : c = 1 := by omega
              subst hc1
              have HE : Hid (V = .tuple #[.int .i64 (wrap64 (bits .or .u64 x 9223372036854775808)), .int .i64 ((at' : Int) + (10 : Nat)), .bool true]) := by
                unfold Hid; rw [← HV.out, ← acc_9]; refine gnV_good ?_
                rw [← HR.out, hf]
                exact rdF_good HZ.out (by omega) (by omega)
              have e10 : (at' : Int) + 9 + 1 = (at' : Int) + (10 : Nat) := by omega
              have E10 := hid' e10
              clear e10 hc0 h1
              go_wp2
              refine bodyPost_ret (v := .tuple #[.int .i64 (wrap64 (bits .or .u64 x 9223372036854775808)), .int .i64 ((at' : Int) + 9 + 1), .bool true]) (by simp [results, Try.results30, go_sem]) rfl ⟨by rw [HE.out, E10.out], rfl⟩
        · have b9 : ((k : Int) == 9) = false := by rw [beq_eq_false_iff_ne]; omega
          have hk9 : k < 9 := by omega
          have hf1 : 10 - (k + 1) = f := by omega
          have HF := hid' hf
          have HF1 := hid' hf1
          clear h9 hf hf1
          by_cases h128 : 128 ≤ c
          · have HE : Hid (rdF zs at' (10 - (k + 1)) (k + 1) (acc x c k) = rdN zs at') := by
              unfold Hid; rw [← HR.out, HF.out, HF1.out, rdF_more HZ.out h128]
            go_wp2
            go_round
            case rel => exact ⟨k + 1, _, by omega, by go_num, rfl, HE.out⟩
            case measure => simp [intOf]; omega
          · by_cases h0 : c = 0 ∧ 0 < k
            · obtain ⟨rfl, hk0⟩ := h0
              have HE : Hid (V = .tuple #[.int .i64 0, .int .i64 0, .bool false]) := by
                unfold Hid; rw [← HV.out]; refine gnV_bad ?_
                rw [← HR.out, HF.out]
                exact rdF_bad HZ.out (by omega) (Or.inl ⟨rfl, hk0⟩)
              go_wp2
              refine bodyPost_ret (v := .tuple #[.int .i64 0, .int .i64 0, .bool false]) (by simp [results, Try.results30, go_sem]) rfl ⟨by rw [HE.out], rfl⟩
            · have HE : Hid (V = .tuple #[.int .i64 (wrap64 (acc x c k)), .int .i64 ((at' : Int) + ((k + 1 : Nat) : Int)), .bool true]) := by
                unfold Hid; rw [← HV.out]; refine gnV_good ?_
                rw [← HR.out, HF.out]
                exact rdF_good HZ.out (by omega) (by omega)
              have E10 := hid' (show (at' : Int) + (k : Int) + 1 = (at' : Int) + ((k + 1 : Nat) : Int) by omega)
              have HAC : Hid (acc x c k = bits .or .u64 x (IntKind.u64.wrap (c % 128 * 2 ^ (7 * k)))) := rfl
              by_cases hk0 : 0 < k
              · have hcb : (c == 0) = false := by rw [beq_eq_false_iff_ne]; exact fun e => h0 ⟨e, hk0⟩
                clear h0
                go_wp2
                refine bodyPost_ret (v := .tuple #[.int .i64 (wrap64 (bits .or .u64 x (IntKind.u64.wrap (c % 128 * 2 ^ (7 * k))))), .int .i64 ((at' : Int) + (k : Int) + 1), .bool true]) (by simp [results, Try.results30, go_sem]) rfl ⟨by rw [HE.out, E10.out, HAC.out], rfl⟩
              · have dk : decide ((0 : Int) < (k : Int)) = false := decide_eq_false (by omega)
                clear h0
                go_wp2
                refine bodyPost_ret (v := .tuple #[.int .i64 (wrap64 (bits .or .u64 x (IntKind.u64.wrap (c % 128 * 2 ^ (7 * k))))), .int .i64 ((at' : Int) + (k : Int) + 1), .bool true]) (by simp [results, Try.results30, go_sem]) rfl ⟨by rw [HE.out, E10.out, HAC.out], rfl⟩
      · have hz : zs[at' + k]? = none := List.getElem?_eq_none (by have := HN.out; omega)
        have HE : Hid (V = .tuple #[.int .i64 0, .int .i64 0, .bool false]) := by
          unfold Hid; rw [← HV.out]; refine gnV_torn ?_
          rw [← HR.out, hf]; exact rdF_none hz
        clear hz
        by_cases han : at' < n
        · go_wp2
          refine bodyPost_ret (v := .tuple #[.int .i64 0, .int .i64 0, .bool false]) (by simp [results, Try.results30, go_sem]) rfl ⟨by rw [HE.out], rfl⟩
        · have dn : decide ((at' : Int) < (n : Int)) = false := decide_eq_false (by omega)
          go_wp2
          refine bodyPost_ret (v := .tuple #[.int .i64 0, .int .i64 0, .bool false]) (by simp [results, Try.results30, go_sem]) rfl ⟨by rw [HE.out], rfl⟩
    · have HE : Hid (V = .tuple #[.int .i64 0, .int .i64 0, .bool false]) := by
        unfold Hid; rw [← HV.out]; refine gnV_bad ?_
        rw [← HR.out, show 10 - k = 0 from by omega]; rfl
      go_wp2
      refine bodyPost_ret (v := .tuple #[.int .i64 0, .int .i64 0, .bool false]) (by simp [results, Try.results30, go_sem]) rfl ⟨by rw [HE.out], rfl⟩

end Go.Proofs.Ytdcbmeiopfdkeaa
