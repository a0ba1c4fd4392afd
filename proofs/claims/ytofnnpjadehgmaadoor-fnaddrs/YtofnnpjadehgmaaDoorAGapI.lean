/-
  The program's GapTo and the library's subtracting with borrow, by their plain twins; nothing old in memory turns.
-/
import Derived.Test.YtofnnpjadehgmaaDoorANrm
import Derived.Laws.Externs
import Derived.Shelf.Spec.BitsCarry
import Derived.Deep.RegionWith
import Derived.Deep.DeepCutAuto
namespace Go.Proofs.YtofnnpjadehgmaaDoor
open Go.RowKit

/-- A word of 64 bits without a sign; a borrow. -/
def WordG (x : Int) : Prop := 0 ≤ x ∧ x < 18446744073709551616
def BitG (x : Int) : Prop := 0 ≤ x ∧ x ≤ 1
def subD (x y b : Int) : Int := (x - y - b) % 18446744073709551616
def subB (x y b : Int) : Int := if x < y + b then 1 else 0
theorem BitG0 : BitG 0 := by unfold BitG; omega
theorem WordG_u (x : Int) : WordG (IntKind.u64.wrap x) := by unfold WordG; rw [IntKind.wrap_u64]; omega
theorem subB_bit (x y b : Int) : BitG (subB x y b) := by unfold BitG subB; split <;> omega

theorem sub64 (x y b : Int) (hx : WordG x) (hy : WordG y) (hb : BitG b) (w : World) :
    (callFunc 35 #[.int .u64 x, .int .u64 y, .int .u64 b]).run Tryd.prog w = .ok (.value (.tuple #[.int .u64 (subD x y b), .int .u64 (subB x y b)])) w := by
  unfold WordG BitG at *
  obtain ⟨x, rfl⟩ := Int.eq_ofNat_of_zero_le hx.1
  obtain ⟨y, rfl⟩ := Int.eq_ofNat_of_zero_le hy.1
  obtain ⟨b, rfl⟩ := Int.eq_ofNat_of_zero_le hb.1
  rw [run_callFunc_extern Tryd.func35 (by kernel_rfl) (by kernel_rfl) (by kernel_rfl) (e := sub64Entry) (by kernel_rfl), run_sub64 x y b (by omega)]
  have e1 : (((x + 18446744073709551616 - y - b) % 18446744073709551616 : Nat) : Int) = subD x y b := by unfold subD; omega
  have e2 : ((if x < y + b then 1 else 0 : Nat) : Int) = subB x y b := by unfold subB; split <;> split <;> omega
  rw [e1, e2]
  rfl

set_option maxHeartbeats 2000000 in
theorem iGap_below (s : Bool) (h l : Int) (s' : Bool) (h' l' : Int) (S : Bool) (H L H' L' lo bo hi be : Int) (hz : Nrm s h l S H L) (hz' : Nrm s' h' l' S H' L')
    (a1 : Hid (∀ wx, (callFunc 35 #[.int .u64 (IntKind.u64.wrap L'), .int .u64 (IntKind.u64.wrap L), .int .u64 0]).run Tryd.prog wx = .ok (.value (.tuple #[.int .u64 lo, .int .u64 bo])) wx))
    (a2 : Hid (∀ wx, (callFunc 35 #[.int .u64 (IntKind.u64.wrap H'), .int .u64 (IntKind.u64.wrap H), .int .u64 bo]).run Tryd.prog wx = .ok (.value (.tuple #[.int .u64 hi, .int .u64 be])) wx))
    (k1 : (be != 0) = true) (w : World) :
    Calls Tryd.prog 14 #[.agg #[.bool s, .int .i64 h, .int .i64 l], .agg #[.bool s', .int .i64 h', .int .i64 l']] w fun e w' => e = .returned (.tuple #[.int .i64 0, .bool false]) ∧ Below w.heap.size w w' := by
  go_enter Tryd.func14, Tryd.ntmps14
  go_upto_region 1 with fail
  go_cut [] (fun wc => (wc.cell? ⟨w.heap.size, 0, none⟩ = some (.bool S) ∧ wc.cell? ⟨w.heap.size, 1, none⟩ = some (.int .i64 H) ∧ wc.cell? ⟨w.heap.size, 2, none⟩ = some (.int .i64 L))
    ∧ (wc.cell? ⟨w.heap.size + 1, 0, none⟩ = some (.bool S) ∧ wc.cell? ⟨w.heap.size + 1, 1, none⟩ = some (.int .i64 H') ∧ wc.cell? ⟨w.heap.size + 1, 2, none⟩ = some (.int .i64 L'))
    ∧ Below w.heap.size w wc)
  case first =>
    go_region_with (first
      | (go_at_call_of 28 (Value.int .i64 h); refine (addrOrZero_any _ _ _ _ _ _ hz _).mono ?_; rintro e w1 ⟨rfl, hb1⟩; have hz1 := hb1.size; (try simp at hz1); (first | (refine ltk (w.heap.size) (w1.heap.size) ?_ ?_; (focus omega); intro f0) | skip); (first | (refine ltk (w.heap.size + 1) (w1.heap.size) ?_ ?_; (focus omega); intro f1) | skip); (first | (refine olds_k (w.heap.size + 2) hb1 ?_ ?_; (focus (first | omega | (simp; omega) | (simp; done))); intro hc1 hf1)))
      | (go_at_call_of 28 (Value.int .i64 h'); refine (addrOrZero_any _ _ _ _ _ _ hz' _).mono ?_; rintro e w2 ⟨rfl, hb2⟩; have hz2 := hb2.size; (try simp at hz2); (first | (refine ltk (w.heap.size) (w2.heap.size) ?_ ?_; (focus omega); intro g0) | skip); (first | (refine ltk (w.heap.size + 1) (w2.heap.size) ?_ ?_; (focus omega); intro g1) | skip); (first | (refine olds_k (w.heap.size + 2) hb2 ?_ ?_; (focus (first | omega | (simp; omega) | (simp; done))); intro hc2 hf2))))
    all_goals
      go_wp2_with fail
      go_meet
      refine ⟨⟨?_, ?_, ?_⟩, ⟨?_, ?_, ?_⟩, ?_⟩
      all_goals try (go_simp; done)
      repeat (first | with_reducible exact Below.refl _ _ | (with_reducible refine Below.drew ?_) | (with_reducible refine Below.alloc ?_ ?_ _; rotate_left; (focus (first | omega | (simp; omega) | (simp; done)))) | (with_reducible refine Below.setCell ?_ ?_ _; rotate_left; (focus (first | omega | (simp; omega) | (simp; done)))) | (with_reducible refine Below.trans ?_ (hb2.mono ?_); rotate_left; (focus (first | omega | (simp; omega) | (simp; done)))) | (with_reducible refine Below.trans ?_ (hb1.mono ?_); rotate_left; (focus (first | omega | (simp; omega) | (simp; done)))))
  case rest =>
    obtain ⟨⟨x0, x1, x2⟩, ⟨y0, y1, y2⟩, hb⟩ := hcut
    go_wp2_with (first | simp only [a1.out] | simp only [a2.out])
    go_ret2
    exact ⟨rfl, hb⟩

set_option maxHeartbeats 2000000 in
theorem iGap_hi (s : Bool) (h l : Int) (s' : Bool) (h' l' : Int) (S : Bool) (H L H' L' lo bo hi be : Int) (hz : Nrm s h l S H L) (hz' : Nrm s' h' l' S H' L')
    (a1 : Hid (∀ wx, (callFunc 35 #[.int .u64 (IntKind.u64.wrap L'), .int .u64 (IntKind.u64.wrap L), .int .u64 0]).run Tryd.prog wx = .ok (.value (.tuple #[.int .u64 lo, .int .u64 bo])) wx))
    (a2 : Hid (∀ wx, (callFunc 35 #[.int .u64 (IntKind.u64.wrap H'), .int .u64 (IntKind.u64.wrap H), .int .u64 bo]).run Tryd.prog wx = .ok (.value (.tuple #[.int .u64 hi, .int .u64 be])) wx))
    (k1 : (be != 0) = false) (k2 : (hi != 0) = true) (w : World) :
    Calls Tryd.prog 14 #[.agg #[.bool s, .int .i64 h, .int .i64 l], .agg #[.bool s', .int .i64 h', .int .i64 l']] w fun e w' => e = .returned (.tuple #[.int .i64 0, .bool false]) ∧ Below w.heap.size w w' := by
  go_enter Tryd.func14, Tryd.ntmps14
  go_upto_region 1 with fail
  go_cut [] (fun wc => (wc.cell? ⟨w.heap.size, 0, none⟩ = some (.bool S) ∧ wc.cell? ⟨w.heap.size, 1, none⟩ = some (.int .i64 H) ∧ wc.cell? ⟨w.heap.size, 2, none⟩ = some (.int .i64 L))
    ∧ (wc.cell? ⟨w.heap.size + 1, 0, none⟩ = some (.bool S) ∧ wc.cell? ⟨w.heap.size + 1, 1, none⟩ = some (.int .i64 H') ∧ wc.cell? ⟨w.heap.size + 1, 2, none⟩ = some (.int .i64 L'))
    ∧ Below w.heap.size w wc)
  case first =>
    go_region_with (first
      | (go_at_call_of 28 (Value.int .i64 h); refine (addrOrZero_any _ _ _ _ _ _ hz _).mono ?_; rintro e w1 ⟨rfl, hb1⟩; have hz1 := hb1.size; (try simp at hz1); (first | (refine ltk (w.heap.size) (w1.heap.size) ?_ ?_; (focus omega); intro f0) | skip); (first | (refine ltk (w.heap.size + 1) (w1.heap.size) ?_ ?_; (focus omega); intro f1) | skip); (first | (refine olds_k (w.heap.size + 2) hb1 ?_ ?_; (focus (first | omega | (simp; omega) | (simp; done))); intro hc1 hf1)))
      | (go_at_call_of 28 (Value.int .i64 h'); refine (addrOrZero_any _ _ _ _ _ _ hz' _).mono ?_; rintro e w2 ⟨rfl, hb2⟩; have hz2 := hb2.size; (try simp at hz2); (first | (refine ltk (w.heap.size) (w2.heap.size) ?_ ?_; (focus omega); intro g0) | skip); (first | (refine ltk (w.heap.size + 1) (w2.heap.size) ?_ ?_; (focus omega); intro g1) | skip); (first | (refine olds_k (w.heap.size + 2) hb2 ?_ ?_; (focus (first | omega | (simp; omega) | (simp; done))); intro hc2 hf2))))
    all_goals
      go_wp2_with fail
      go_meet
      refine ⟨⟨?_, ?_, ?_⟩, ⟨?_, ?_, ?_⟩, ?_⟩
      all_goals try (go_simp; done)
      repeat (first | with_reducible exact Below.refl _ _ | (with_reducible refine Below.drew ?_) | (with_reducible refine Below.alloc ?_ ?_ _; rotate_left; (focus (first | omega | (simp; omega) | (simp; done)))) | (with_reducible refine Below.setCell ?_ ?_ _; rotate_left; (focus (first | omega | (simp; omega) | (simp; done)))) | (with_reducible refine Below.trans ?_ (hb2.mono ?_); rotate_left; (focus (first | omega | (simp; omega) | (simp; done)))) | (with_reducible refine Below.trans ?_ (hb1.mono ?_); rotate_left; (focus (first | omega | (simp; omega) | (simp; done)))))
  case rest =>
    obtain ⟨⟨x0, x1, x2⟩, ⟨y0, y1, y2⟩, hb⟩ := hcut
    go_wp2_with (first | simp only [a1.out] | simp only [a2.out])
    go_ret2
    exact ⟨rfl, hb⟩

set_option maxHeartbeats 2000000 in
theorem iGap_lo (s : Bool) (h l : Int) (s' : Bool) (h' l' : Int) (S : Bool) (H L H' L' lo bo hi be : Int) (hz : Nrm s h l S H L) (hz' : Nrm s' h' l' S H' L')
    (a1 : Hid (∀ wx, (callFunc 35 #[.int .u64 (IntKind.u64.wrap L'), .int .u64 (IntKind.u64.wrap L), .int .u64 0]).run Tryd.prog wx = .ok (.value (.tuple #[.int .u64 lo, .int .u64 bo])) wx))
    (a2 : Hid (∀ wx, (callFunc 35 #[.int .u64 (IntKind.u64.wrap H'), .int .u64 (IntKind.u64.wrap H), .int .u64 bo]).run Tryd.prog wx = .ok (.value (.tuple #[.int .u64 hi, .int .u64 be])) wx))
    (k1 : (be != 0) = false) (k2 : (hi != 0) = false) (k3 : 9223372036854775807 < lo) (w : World) :
    Calls Tryd.prog 14 #[.agg #[.bool s, .int .i64 h, .int .i64 l], .agg #[.bool s', .int .i64 h', .int .i64 l']] w fun e w' => e = .returned (.tuple #[.int .i64 0, .bool false]) ∧ Below w.heap.size w w' := by
  go_enter Tryd.func14, Tryd.ntmps14
  go_upto_region 1 with fail
  go_cut [] (fun wc => (wc.cell? ⟨w.heap.size, 0, none⟩ = some (.bool S) ∧ wc.cell? ⟨w.heap.size, 1, none⟩ = some (.int .i64 H) ∧ wc.cell? ⟨w.heap.size, 2, none⟩ = some (.int .i64 L))
    ∧ (wc.cell? ⟨w.heap.size + 1, 0, none⟩ = some (.bool S) ∧ wc.cell? ⟨w.heap.size + 1, 1, none⟩ = some (.int .i64 H') ∧ wc.cell? ⟨w.heap.size + 1, 2, none⟩ = some (.int .i64 L'))
    ∧ Below w.heap.size w wc)
  case first =>
    go_region_with (first
      | (go_at_call_of 28 (Value.int .i64 h); refine (addrOrZero_any _ _ _ _ _ _ hz _).mono ?_; rintro e w1 ⟨rfl, hb1⟩; have hz1 := hb1.size; (try simp at hz1); (first | (refine ltk (w.heap.size) (w1.heap.size) ?_ ?_; (focus omega); intro f0) | skip); (first | (refine ltk (w.heap.size + 1) (w1.heap.size) ?_ ?_; (focus omega); intro f1) | skip); (first | (refine olds_k (w.heap.size + 2) hb1 ?_ ?_; (focus (first | omega | (simp; omega) | (simp; done))); intro hc1 hf1)))
      | (go_at_call_of 28 (Value.int .i64 h'); refine (addrOrZero_any _ _ _ _ _ _ hz' _).mono ?_; rintro e w2 ⟨rfl, hb2⟩; have hz2 := hb2.size; (try simp at hz2); (first | (refine ltk (w.heap.size) (w2.heap.size) ?_ ?_; (focus omega); intro g0) | skip); (first | (refine ltk (w.heap.size + 1) (w2.heap.size) ?_ ?_; (focus omega); intro g1) | skip); (first | (refine olds_k (w.heap.size + 2) hb2 ?_ ?_; (focus (first | omega | (simp; omega) | (simp; done))); intro hc2 hf2))))
    all_goals
      go_wp2_with fail
      go_meet
      refine ⟨⟨?_, ?_, ?_⟩, ⟨?_, ?_, ?_⟩, ?_⟩
      all_goals try (go_simp; done)
      repeat (first | with_reducible exact Below.refl _ _ | (with_reducible refine Below.drew ?_) | (with_reducible refine Below.alloc ?_ ?_ _; rotate_left; (focus (first | omega | (simp; omega) | (simp; done)))) | (with_reducible refine Below.setCell ?_ ?_ _; rotate_left; (focus (first | omega | (simp; omega) | (simp; done)))) | (with_reducible refine Below.trans ?_ (hb2.mono ?_); rotate_left; (focus (first | omega | (simp; omega) | (simp; done)))) | (with_reducible refine Below.trans ?_ (hb1.mono ?_); rotate_left; (focus (first | omega | (simp; omega) | (simp; done)))))
  case rest =>
    obtain ⟨⟨x0, x1, x2⟩, ⟨y0, y1, y2⟩, hb⟩ := hcut
    go_wp2_with (first | simp only [a1.out] | simp only [a2.out])
    go_ret2
    exact ⟨rfl, hb⟩

set_option maxHeartbeats 2000000 in
theorem iGap_ok (s : Bool) (h l : Int) (s' : Bool) (h' l' : Int) (S : Bool) (H L H' L' lo bo hi be : Int) (hz : Nrm s h l S H L) (hz' : Nrm s' h' l' S H' L')
    (a1 : Hid (∀ wx, (callFunc 35 #[.int .u64 (IntKind.u64.wrap L'), .int .u64 (IntKind.u64.wrap L), .int .u64 0]).run Tryd.prog wx = .ok (.value (.tuple #[.int .u64 lo, .int .u64 bo])) wx))
    (a2 : Hid (∀ wx, (callFunc 35 #[.int .u64 (IntKind.u64.wrap H'), .int .u64 (IntKind.u64.wrap H), .int .u64 bo]).run Tryd.prog wx = .ok (.value (.tuple #[.int .u64 hi, .int .u64 be])) wx))
    (k1 : (be != 0) = false) (k2 : (hi != 0) = false) (k3 : lo ≤ 9223372036854775807) (k4 : 0 ≤ lo) (w : World) :
    Calls Tryd.prog 14 #[.agg #[.bool s, .int .i64 h, .int .i64 l], .agg #[.bool s', .int .i64 h', .int .i64 l']] w fun e w' => e = .returned (.tuple #[.int .i64 lo, .bool true]) ∧ Below w.heap.size w w' := by
  go_enter Tryd.func14, Tryd.ntmps14
  go_upto_region 1 with fail
  go_cut [] (fun wc => (wc.cell? ⟨w.heap.size, 0, none⟩ = some (.bool S) ∧ wc.cell? ⟨w.heap.size, 1, none⟩ = some (.int .i64 H) ∧ wc.cell? ⟨w.heap.size, 2, none⟩ = some (.int .i64 L))
    ∧ (wc.cell? ⟨w.heap.size + 1, 0, none⟩ = some (.bool S) ∧ wc.cell? ⟨w.heap.size + 1, 1, none⟩ = some (.int .i64 H') ∧ wc.cell? ⟨w.heap.size + 1, 2, none⟩ = some (.int .i64 L'))
    ∧ Below w.heap.size w wc)
  case first =>
    go_region_with (first
      | (go_at_call_of 28 (Value.int .i64 h); refine (addrOrZero_any _ _ _ _ _ _ hz _).mono ?_; rintro e w1 ⟨rfl, hb1⟩; have hz1 := hb1.size; (try simp at hz1); (first | (refine ltk (w.heap.size) (w1.heap.size) ?_ ?_; (focus omega); intro f0) | skip); (first | (refine ltk (w.heap.size + 1) (w1.heap.size) ?_ ?_; (focus omega); intro f1) | skip); (first | (refine olds_k (w.heap.size + 2) hb1 ?_ ?_; (focus (first | omega | (simp; omega) | (simp; done))); intro hc1 hf1)))
      | (go_at_call_of 28 (Value.int .i64 h'); refine (addrOrZero_any _ _ _ _ _ _ hz' _).mono ?_; rintro e w2 ⟨rfl, hb2⟩; have hz2 := hb2.size; (try simp at hz2); (first | (refine ltk (w.heap.size) (w2.heap.size) ?_ ?_; (focus omega); intro g0) | skip); (first | (refine ltk (w.heap.size + 1) (w2.heap.size) ?_ ?_; (focus omega); intro g1) | skip); (first | (refine olds_k (w.heap.size + 2) hb2 ?_ ?_; (focus (first | omega | (simp; omega) | (simp; done))); intro hc2 hf2))))
    all_goals
      go_wp2_with fail
      go_meet
      refine ⟨⟨?_, ?_, ?_⟩, ⟨?_, ?_, ?_⟩, ?_⟩
      all_goals try (go_simp; done)
      repeat (first | with_reducible exact Below.refl _ _ | (with_reducible refine Below.drew ?_) | (with_reducible refine Below.alloc ?_ ?_ _; rotate_left; (focus (first | omega | (simp; omega) | (simp; done)))) | (with_reducible refine Below.setCell ?_ ?_ _; rotate_left; (focus (first | omega | (simp; omega) | (simp; done)))) | (with_reducible refine Below.trans ?_ (hb2.mono ?_); rotate_left; (focus (first | omega | (simp; omega) | (simp; done)))) | (with_reducible refine Below.trans ?_ (hb1.mono ?_); rotate_left; (focus (first | omega | (simp; omega) | (simp; done)))))
  case rest =>
    obtain ⟨⟨x0, x1, x2⟩, ⟨y0, y1, y2⟩, hb⟩ := hcut
    go_wp2_with (first | simp only [a1.out] | simp only [a2.out])
    go_ret2
    exact ⟨rfl, hb⟩

set_option maxHeartbeats 2000000 in
theorem iGap_ft (s : Bool) (h l : Int) (s' : Bool) (h' l' : Int) (H L H' L' lo bo hi be : Int) (hz : Nrm s h l false H L) (hz' : Nrm s' h' l' true H' L')
    (a1 : Hid (∀ wx, (callFunc 35 #[.int .u64 (IntKind.u64.wrap L'), .int .u64 (IntKind.u64.wrap L), .int .u64 0]).run Tryd.prog wx = .ok (.value (.tuple #[.int .u64 lo, .int .u64 bo])) wx))
    (a2 : Hid (∀ wx, (callFunc 35 #[.int .u64 (IntKind.u64.wrap H'), .int .u64 (IntKind.u64.wrap H), .int .u64 bo]).run Tryd.prog wx = .ok (.value (.tuple #[.int .u64 hi, .int .u64 be])) wx))
    (w : World) :
    Calls Tryd.prog 14 #[.agg #[.bool s, .int .i64 h, .int .i64 l], .agg #[.bool s', .int .i64 h', .int .i64 l']] w fun e w' => e = .returned (.tuple #[.int .i64 0, .bool false]) ∧ Below w.heap.size w w' := by
  go_enter Tryd.func14, Tryd.ntmps14
  go_upto_region 1 with fail
  go_cut [] (fun wc => (wc.cell? ⟨w.heap.size, 0, none⟩ = some (.bool false) ∧ wc.cell? ⟨w.heap.size, 1, none⟩ = some (.int .i64 H) ∧ wc.cell? ⟨w.heap.size, 2, none⟩ = some (.int .i64 L))
    ∧ (wc.cell? ⟨w.heap.size + 1, 0, none⟩ = some (.bool true) ∧ wc.cell? ⟨w.heap.size + 1, 1, none⟩ = some (.int .i64 H') ∧ wc.cell? ⟨w.heap.size + 1, 2, none⟩ = some (.int .i64 L'))
    ∧ Below w.heap.size w wc)
  case first =>
    go_region_with (first
      | (go_at_call_of 28 (Value.int .i64 h); refine (addrOrZero_any _ _ _ _ _ _ hz _).mono ?_; rintro e w1 ⟨rfl, hb1⟩; have hz1 := hb1.size; (try simp at hz1); (first | (refine ltk (w.heap.size) (w1.heap.size) ?_ ?_; (focus omega); intro f0) | skip); (first | (refine ltk (w.heap.size + 1) (w1.heap.size) ?_ ?_; (focus omega); intro f1) | skip); (first | (refine olds_k (w.heap.size + 2) hb1 ?_ ?_; (focus (first | omega | (simp; omega) | (simp; done))); intro hc1 hf1)))
      | (go_at_call_of 28 (Value.int .i64 h'); refine (addrOrZero_any _ _ _ _ _ _ hz' _).mono ?_; rintro e w2 ⟨rfl, hb2⟩; have hz2 := hb2.size; (try simp at hz2); (first | (refine ltk (w.heap.size) (w2.heap.size) ?_ ?_; (focus omega); intro g0) | skip); (first | (refine ltk (w.heap.size + 1) (w2.heap.size) ?_ ?_; (focus omega); intro g1) | skip); (first | (refine olds_k (w.heap.size + 2) hb2 ?_ ?_; (focus (first | omega | (simp; omega) | (simp; done))); intro hc2 hf2))))
    all_goals
      go_wp2_with fail
      go_meet
      refine ⟨⟨?_, ?_, ?_⟩, ⟨?_, ?_, ?_⟩, ?_⟩
      all_goals try (go_simp; done)
      repeat (first | with_reducible exact Below.refl _ _ | (with_reducible refine Below.drew ?_) | (with_reducible refine Below.alloc ?_ ?_ _; rotate_left; (focus (first | omega | (simp; omega) | (simp; done)))) | (with_reducible refine Below.setCell ?_ ?_ _; rotate_left; (focus (first | omega | (simp; omega) | (simp; done)))) | (with_reducible refine Below.trans ?_ (hb2.mono ?_); rotate_left; (focus (first | omega | (simp; omega) | (simp; done)))) | (with_reducible refine Below.trans ?_ (hb1.mono ?_); rotate_left; (focus (first | omega | (simp; omega) | (simp; done)))))
  case rest =>
    obtain ⟨⟨x0, x1, x2⟩, ⟨y0, y1, y2⟩, hb⟩ := hcut
    go_wp2_with (first | simp only [a1.out] | simp only [a2.out])
    go_ret2
    exact ⟨rfl, hb⟩

set_option maxHeartbeats 2000000 in
theorem iGap_tf (s : Bool) (h l : Int) (s' : Bool) (h' l' : Int) (H L H' L' lo bo hi be : Int) (hz : Nrm s h l true H L) (hz' : Nrm s' h' l' false H' L')
    (a1 : Hid (∀ wx, (callFunc 35 #[.int .u64 (IntKind.u64.wrap L'), .int .u64 (IntKind.u64.wrap L), .int .u64 0]).run Tryd.prog wx = .ok (.value (.tuple #[.int .u64 lo, .int .u64 bo])) wx))
    (a2 : Hid (∀ wx, (callFunc 35 #[.int .u64 (IntKind.u64.wrap H'), .int .u64 (IntKind.u64.wrap H), .int .u64 bo]).run Tryd.prog wx = .ok (.value (.tuple #[.int .u64 hi, .int .u64 be])) wx))
    (w : World) :
    Calls Tryd.prog 14 #[.agg #[.bool s, .int .i64 h, .int .i64 l], .agg #[.bool s', .int .i64 h', .int .i64 l']] w fun e w' => e = .returned (.tuple #[.int .i64 0, .bool false]) ∧ Below w.heap.size w w' := by
  go_enter Tryd.func14, Tryd.ntmps14
  go_upto_region 1 with fail
  go_cut [] (fun wc => (wc.cell? ⟨w.heap.size, 0, none⟩ = some (.bool true) ∧ wc.cell? ⟨w.heap.size, 1, none⟩ = some (.int .i64 H) ∧ wc.cell? ⟨w.heap.size, 2, none⟩ = some (.int .i64 L))
    ∧ (wc.cell? ⟨w.heap.size + 1, 0, none⟩ = some (.bool false) ∧ wc.cell? ⟨w.heap.size + 1, 1, none⟩ = some (.int .i64 H') ∧ wc.cell? ⟨w.heap.size + 1, 2, none⟩ = some (.int .i64 L'))
    ∧ Below w.heap.size w wc)
  case first =>
    go_region_with (first
      | (go_at_call_of 28 (Value.int .i64 h); refine (addrOrZero_any _ _ _ _ _ _ hz _).mono ?_; rintro e w1 ⟨rfl, hb1⟩; have hz1 := hb1.size; (try simp at hz1); (first | (refine ltk (w.heap.size) (w1.heap.size) ?_ ?_; (focus omega); intro f0) | skip); (first | (refine ltk (w.heap.size + 1) (w1.heap.size) ?_ ?_; (focus omega); intro f1) | skip); (first | (refine olds_k (w.heap.size + 2) hb1 ?_ ?_; (focus (first | omega | (simp; omega) | (simp; done))); intro hc1 hf1)))
      | (go_at_call_of 28 (Value.int .i64 h'); refine (addrOrZero_any _ _ _ _ _ _ hz' _).mono ?_; rintro e w2 ⟨rfl, hb2⟩; have hz2 := hb2.size; (try simp at hz2); (first | (refine ltk (w.heap.size) (w2.heap.size) ?_ ?_; (focus omega); intro g0) | skip); (first | (refine ltk (w.heap.size + 1) (w2.heap.size) ?_ ?_; (focus omega); intro g1) | skip); (first | (refine olds_k (w.heap.size + 2) hb2 ?_ ?_; (focus (first | omega | (simp; omega) | (simp; done))); intro hc2 hf2))))
    all_goals
      go_wp2_with fail
      go_meet
      refine ⟨⟨?_, ?_, ?_⟩, ⟨?_, ?_, ?_⟩, ?_⟩
      all_goals try (go_simp; done)
      repeat (first | with_reducible exact Below.refl _ _ | (with_reducible refine Below.drew ?_) | (with_reducible refine Below.alloc ?_ ?_ _; rotate_left; (focus (first | omega | (simp; omega) | (simp; done)))) | (with_reducible refine Below.setCell ?_ ?_ _; rotate_left; (focus (first | omega | (simp; omega) | (simp; done)))) | (with_reducible refine Below.trans ?_ (hb2.mono ?_); rotate_left; (focus (first | omega | (simp; omega) | (simp; done)))) | (with_reducible refine Below.trans ?_ (hb1.mono ?_); rotate_left; (focus (first | omega | (simp; omega) | (simp; done)))))
  case rest =>
    obtain ⟨⟨x0, x1, x2⟩, ⟨y0, y1, y2⟩, hb⟩ := hcut
    go_wp2_with (first | simp only [a1.out] | simp only [a2.out])
    go_ret2
    exact ⟨rfl, hb⟩

end Go.Proofs.YtofnnpjadehgmaaDoor
