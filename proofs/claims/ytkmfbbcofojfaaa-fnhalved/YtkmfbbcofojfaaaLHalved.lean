/-
  For every code: of the prefix that is drawn the halves lie in it, overlap nowhere, are what they are above, and each is the other one's sibling, as the law FnHalved asks; no condition.
-/
import Derived.Test.YtkmfbbcofojfaaaHAll2
import Derived.Test.YtkmfbbcofojfaaaHBox
import Derived.Test.YtkmfbbcofojfaaaWHalv
import Derived.Test.YtkmfbbcofojfaaaBSSib
import Derived.Test.YtkmfbbcofojfaaaBIPok
import Derived.ProofKit
import Derived.Lib.SmallJoins
namespace Go.Proofs.Ytkmfbbcofojfaaa
open Go.RowKit

set_option maxHeartbeats 8000000 in
theorem lawHalved (a : Option Addr) (len cap : Nat) (w : World) (hB : Bytes w a len) (hl : len ≤ 1048576) :
    Calls Try.prog 3 #[.slice a len cap] w fun e w' => e = .returned (.bool true) ∧ Below w.heap.size w w' := by
  have HBy : Hid (Bytes w a len) := hB
  clear hB
  have hbig : ∀ wx : World, Calls Try.prog 7 #[.slice a len cap] wx fun e w' => e = .returned (.bool false) ∧ wx = w' := fun wx => by
    have d : decide ((1048576 : Int) < (len : Int)) = false := decide_eq_false (by omega)
    go_enter Try.func7, Try.ntmps7
    go_wp2
    go_ret
    exact ⟨rfl, rfl⟩
  have HG : Hid (∀ wx : World, _) := hbig
  clear hbig
  go_enter Try.func3, Try.ntmps3
  go_wp2_with fail
  refine (HG.out _).mono ?_
  rintro e w0 ⟨rfl, rfl⟩
  go_wp2_with fail
  refine (drawHalves_any a len cap _ HBy.out hl).mono ?_
  rintro e w1 ⟨⟨s, X, Y, b, ⟨bX, bY, _⟩, rfl⟩, hb1⟩
  obtain ⟨H, rfl⟩ : ∃ H : BitVec 64, X = H.toInt := ⟨_, (bvW bX).symm⟩
  obtain ⟨L, rfl⟩ : ∃ L : BitVec 64, Y = L.toInt := ⟨_, (bvW bY).symm⟩
  clear bX bY
  have hz1 := hb1.size
  cases hp : pokB s H L b
  · have H1 : Hid (∀ w : World, _) := iHalves_no s H L b hp
    have H2 : Hid (∀ w : World, _) := sHalves_no s H L b hp
    have H3 : Hid (∀ w : World, _) := sPrefixOk_any s H L b
    rw [hp] at H3
    clear hp
    go_wp2_with fail
    refine (H1.out _).mono ?_
    rintro e w2 ⟨rfl, hb2⟩
    have hz2 := hb2.size
    try simp at hz2
    have Bp2 : Hid (Box w2 (w1.heap.size) [.bool s, .int .i64 H.toInt, .int .i64 L.toInt, .int .i64 b]) := Box.below (Box.new (p := w1.heap.size) [.bool s, .int .i64 H.toInt, .int .i64 L.toInt, .int .i64 b] 27 (by first | rfl | (simp; done))) hb2
    obtain ⟨lp, zp⟩ := Bp2.out
    have mp := Nat.lt_succ_of_lt lp
    have cp0 := zp 0 _ rfl
    have cp1 := zp 1 _ rfl
    have cp2 := zp 2 _ rfl
    have cp3 := zp 3 _ rfl
    clear zp
    go_wp2_with fail
    clear lp mp cp0 cp1 cp2 cp3
    refine (H2.out _).mono ?_
    rintro e w3 ⟨rfl, hb3⟩
    have hz3 := hb3.size
    try simp at hz3
    have Bp3 : Hid (Box w3 (w1.heap.size) [.bool s, .int .i64 H.toInt, .int .i64 L.toInt, .int .i64 b]) := Box.below (Box.more (Box.more (Bp2.out) _) _) hb3
    have Bx3 : Hid (Box w3 (w2.heap.size) [.bool false, .int .i64 0, .int .i64 0, .int .i64 0]) := Box.below (Box.more (Box.new (p := w2.heap.size) [.bool false, .int .i64 0, .int .i64 0, .int .i64 0] 27 (by first | rfl | (simp; done))) _) hb3
    have By3 : Hid (Box w3 (w2.heap.size + 1) [.bool false, .int .i64 0, .int .i64 0, .int .i64 0]) := Box.below (Box.new (p := w2.heap.size + 1) [.bool false, .int .i64 0, .int .i64 0, .int .i64 0] 27 (by first | rfl | (simp; done))) hb3
    clear Bp2
    obtain ⟨lp, zp⟩ := Bp3.out
    have mp := Nat.lt_succ_of_lt lp
    have cp0 := zp 0 _ rfl
    have cp1 := zp 1 _ rfl
    have cp2 := zp 2 _ rfl
    have cp3 := zp 3 _ rfl
    clear zp
    go_wp2_with fail
    clear lp mp cp0 cp1 cp2 cp3
    refine (H3.out _).mono ?_
    rintro e w4 ⟨rfl, hb4⟩
    have hz4 := hb4.size
    try simp at hz4
    have Bp4 : Hid (Box w4 (w1.heap.size) [.bool s, .int .i64 H.toInt, .int .i64 L.toInt, .int .i64 b]) := Box.below (Box.more (Box.more (Bp3.out) _) _) hb4
    have Bx4 : Hid (Box w4 (w2.heap.size) [.bool false, .int .i64 0, .int .i64 0, .int .i64 0]) := Box.below (Box.more (Box.more (Bx3.out) _) _) hb4
    have By4 : Hid (Box w4 (w2.heap.size + 1) [.bool false, .int .i64 0, .int .i64 0, .int .i64 0]) := Box.below (Box.more (Box.more (By3.out) _) _) hb4
    have Bq4 : Hid (Box w4 (w3.heap.size) [.bool false, .int .i64 0, .int .i64 0, .int .i64 0]) := Box.below (Box.more (Box.new (p := w3.heap.size) [.bool false, .int .i64 0, .int .i64 0, .int .i64 0] 27 (by first | rfl | (simp; done))) _) hb4
    have Br4 : Hid (Box w4 (w3.heap.size + 1) [.bool false, .int .i64 0, .int .i64 0, .int .i64 0]) := Box.below (Box.new (p := w3.heap.size + 1) [.bool false, .int .i64 0, .int .i64 0, .int .i64 0] 27 (by first | rfl | (simp; done))) hb4
    clear Bp3 Bx3 By3
    go_wp2_with fail
    go_ret
    refine ⟨rfl, ?_⟩
    repeat (first | with_reducible exact Below.refl _ _ | (with_reducible refine Below.drew ?_) | (with_reducible refine Below.alloc ?_ ?_ _; rotate_left; (focus (first | omega | (simp; omega) | (simp; done)))) | (with_reducible refine Below.setCell ?_ ?_ _; rotate_left; (focus (first | omega | (simp; omega) | (simp; done)))) | (with_reducible refine Below.trans ?_ (hb4.mono ?_); rotate_left; (focus (first | omega | (simp; omega) | (simp; done)))) | (with_reducible refine Below.trans ?_ (hb3.mono ?_); rotate_left; (focus (first | omega | (simp; omega) | (simp; done)))) | (with_reducible refine Below.trans ?_ (hb2.mono ?_); rotate_left; (focus (first | omega | (simp; omega) | (simp; done)))) | (with_reducible refine Below.trans ?_ (hb1.mono ?_); rotate_left; (focus (first | omega | (simp; omega) | (simp; done)))))
  · obtain ⟨hok, hbd, _⟩ := pokB_parts hp
    by_cases h0 : b = (wd s : Int)
    · have H1 : Hid (∀ w : World, _) := iHalves_one s H L b (by omega) hp
      have H2 : Hid (∀ w : World, _) := sHalves_one s H L b hp (by rw [beq_iff_eq]; exact h0)
      have H3 : Hid (∀ w : World, _) := sPrefixOk_any s H L b
      have H4 : Hid (∀ w : World, _) := iPrefixOk_any s H L b
      rw [hp] at H3 H4
      clear hp hok hbd h0
      go_wp2_with fail
      refine (H1.out _).mono ?_
      rintro e w2 ⟨rfl, hb2⟩
      have hz2 := hb2.size
      try simp at hz2
      have Bp2 : Hid (Box w2 (w1.heap.size) [.bool s, .int .i64 H.toInt, .int .i64 L.toInt, .int .i64 b]) := Box.below (Box.new (p := w1.heap.size) [.bool s, .int .i64 H.toInt, .int .i64 L.toInt, .int .i64 b] 27 (by first | rfl | (simp; done))) hb2
      obtain ⟨lp, zp⟩ := Bp2.out
      have mp := Nat.lt_succ_of_lt lp
      have cp0 := zp 0 _ rfl
      have cp1 := zp 1 _ rfl
      have cp2 := zp 2 _ rfl
      have cp3 := zp 3 _ rfl
      clear zp
      go_wp2_with fail
      clear lp mp cp0 cp1 cp2 cp3
      refine (H2.out _).mono ?_
      rintro e w3 ⟨rfl, hb3⟩
      have hz3 := hb3.size
      try simp at hz3
      have Bp3 : Hid (Box w3 (w1.heap.size) [.bool s, .int .i64 H.toInt, .int .i64 L.toInt, .int .i64 b]) := Box.below (Box.more (Box.more (Bp2.out) _) _) hb3
      have Bx3 : Hid (Box w3 (w2.heap.size) [.bool false, .int .i64 0, .int .i64 0, .int .i64 0]) := Box.below (Box.more (Box.new (p := w2.heap.size) [.bool false, .int .i64 0, .int .i64 0, .int .i64 0] 27 (by first | rfl | (simp; done))) _) hb3
      have By3 : Hid (Box w3 (w2.heap.size + 1) [.bool false, .int .i64 0, .int .i64 0, .int .i64 0]) := Box.below (Box.new (p := w2.heap.size + 1) [.bool false, .int .i64 0, .int .i64 0, .int .i64 0] 27 (by first | rfl | (simp; done))) hb3
      clear Bp2
      obtain ⟨lp, zp⟩ := Bp3.out
      have mp := Nat.lt_succ_of_lt lp
      have cp0 := zp 0 _ rfl
      have cp1 := zp 1 _ rfl
      have cp2 := zp 2 _ rfl
      have cp3 := zp 3 _ rfl
      clear zp
      go_wp2_with fail
      clear lp mp cp0 cp1 cp2 cp3
      refine (H3.out _).mono ?_
      rintro e w4 ⟨rfl, hb4⟩
      have hz4 := hb4.size
      try simp at hz4
      have Bp4 : Hid (Box w4 (w1.heap.size) [.bool s, .int .i64 H.toInt, .int .i64 L.toInt, .int .i64 b]) := Box.below (Box.more (Box.more (Bp3.out) _) _) hb4
      have Bx4 : Hid (Box w4 (w2.heap.size) [.bool false, .int .i64 0, .int .i64 0, .int .i64 0]) := Box.below (Box.more (Box.more (Bx3.out) _) _) hb4
      have By4 : Hid (Box w4 (w2.heap.size + 1) [.bool false, .int .i64 0, .int .i64 0, .int .i64 0]) := Box.below (Box.more (Box.more (By3.out) _) _) hb4
      have Bq4 : Hid (Box w4 (w3.heap.size) [.bool false, .int .i64 0, .int .i64 0, .int .i64 0]) := Box.below (Box.more (Box.new (p := w3.heap.size) [.bool false, .int .i64 0, .int .i64 0, .int .i64 0] 27 (by first | rfl | (simp; done))) _) hb4
      have Br4 : Hid (Box w4 (w3.heap.size + 1) [.bool false, .int .i64 0, .int .i64 0, .int .i64 0]) := Box.below (Box.new (p := w3.heap.size + 1) [.bool false, .int .i64 0, .int .i64 0, .int .i64 0] 27 (by first | rfl | (simp; done))) hb4
      clear Bp3 Bx3 By3
      obtain ⟨lp, zp⟩ := Bp4.out
      have mp := Nat.lt_succ_of_lt lp
      have cp0 := zp 0 _ rfl
      have cp1 := zp 1 _ rfl
      have cp2 := zp 2 _ rfl
      have cp3 := zp 3 _ rfl
      clear zp
      go_wp2_with fail
      clear lp mp cp0 cp1 cp2 cp3
      refine (H4.out _).mono ?_
      rintro e w5 ⟨rfl, hb5⟩
      have hz5 := hb5.size
      try simp at hz5
      have Bp5 : Hid (Box w5 (w1.heap.size) [.bool s, .int .i64 H.toInt, .int .i64 L.toInt, .int .i64 b]) := Box.below (Bp4.out) hb5
      have Bx5 : Hid (Box w5 (w2.heap.size) [.bool false, .int .i64 0, .int .i64 0, .int .i64 0]) := Box.below (Bx4.out) hb5
      have By5 : Hid (Box w5 (w2.heap.size + 1) [.bool false, .int .i64 0, .int .i64 0, .int .i64 0]) := Box.below (By4.out) hb5
      have Bq5 : Hid (Box w5 (w3.heap.size) [.bool false, .int .i64 0, .int .i64 0, .int .i64 0]) := Box.below (Bq4.out) hb5
      have Br5 : Hid (Box w5 (w3.heap.size + 1) [.bool false, .int .i64 0, .int .i64 0, .int .i64 0]) := Box.below (Br4.out) hb5
      clear Bp4 Bx4 By4 Bq4 Br4
      go_wp2_with fail
      go_ret
      refine ⟨rfl, ?_⟩
      repeat (first | with_reducible exact Below.refl _ _ | (with_reducible refine Below.drew ?_) | (with_reducible refine Below.alloc ?_ ?_ _; rotate_left; (focus (first | omega | (simp; omega) | (simp; done)))) | (with_reducible refine Below.setCell ?_ ?_ _; rotate_left; (focus (first | omega | (simp; omega) | (simp; done)))) | (with_reducible refine Below.trans ?_ (hb5.mono ?_); rotate_left; (focus (first | omega | (simp; omega) | (simp; done)))) | (with_reducible refine Below.trans ?_ (hb4.mono ?_); rotate_left; (focus (first | omega | (simp; omega) | (simp; done)))) | (with_reducible refine Below.trans ?_ (hb3.mono ?_); rotate_left; (focus (first | omega | (simp; omega) | (simp; done)))) | (with_reducible refine Below.trans ?_ (hb2.mono ?_); rotate_left; (focus (first | omega | (simp; omega) | (simp; done)))) | (with_reducible refine Below.trans ?_ (hb1.mono ?_); rotate_left; (focus (first | omega | (simp; omega) | (simp; done)))))
    · obtain ⟨k, hk⟩ : ∃ k : Nat, (k : Int) + 1 = (wd s : Int) - b := ⟨((wd s : Int) - b - 1).toNat, by omega⟩
      have x := halved_mk s H L b k hp hk
      generalize cH k (fH (k + 1) H) = U at x
      generalize cL k (fL (k + 1) L) = V at x
      have H1 : Hid (∀ w : World, _) := hv_halves x
      have H2 : Hid (∀ w : World, _) := hv_shalves x
      have H3 : Hid (∀ w : World, _) := hv_above_a x
      have H4 : Hid (∀ w : World, _) := hv_above_b x
      have H5 : Hid (∀ w : World, _) := hv_sib x
      have H6 : Hid (∀ w : World, _) := hv_nth x
      have H7 : Hid (∀ w : World, _) := hv_last_a x
      have H8 : Hid (∀ w : World, _) := hv_add x
      have H9 : Hid (∀ w : World, _) := hv_last_p x
      have H10 : Hid (∀ w : World, _) := hv_last_b x
      have H11 : Hid (∀ w : World, _) := hv_win_ap x
      have H12 : Hid (∀ w : World, _) := hv_win_bp x
      have H13 : Hid (∀ w : World, _) := hv_ov_ab x
      have H14 : Hid (∀ w : World, _) := hv_ov_ap x
      have H15 : Hid (∀ w : World, _) := hv_cmp x
      generalize (fH k H).toInt = m1 at H7 H8
      generalize (fL k L).toInt = m2 at H7 H8
      generalize (fH (k + 1) H).toInt = n1 at H9 H10
      generalize (fL (k + 1) L).toInt = n2 at H9 H10
      generalize U.toInt = u at H1 H2 H4 H5 H6 H8 H10 H12 H13 H15
      generalize V.toInt = v at H1 H2 H4 H5 H6 H8 H10 H12 H13 H15
      clear x hk hp hok hbd h0
      generalize H.toInt = h at *
      generalize L.toInt = l at *
      generalize b + 1 = b1 at *
      have e1 : ∀ wx, (Op.equalIn 10000 27 (.agg #[.bool s, .int .i64 h, .int .i64 l, .int .i64 b]) (.agg #[.bool s, .int .i64 h, .int .i64 l, .int .i64 b])).run Try.prog wx = .ok true wx := fun wx => by rw [eqPf]; simp
      have e2 : ∀ wx, (Op.equalIn 10000 27 (.agg #[.bool s, .int .i64 u, .int .i64 v, .int .i64 b1]) (.agg #[.bool s, .int .i64 u, .int .i64 v, .int .i64 b1])).run Try.prog wx = .ok true wx := fun wx => by rw [eqPf]; simp
      have e3 : ∀ wx, (Op.equalIn 10000 25 (.agg #[.bool s, .int .i64 u, .int .i64 v]) (.agg #[.bool s, .int .i64 u, .int .i64 v])).run Try.prog wx = .ok true wx := fun wx => by rw [eqAd]; simp
      have e4 : ∀ wx, (Op.equalIn 10000 25 (.agg #[.bool s, .int .i64 n1, .int .i64 n2]) (.agg #[.bool s, .int .i64 n1, .int .i64 n2])).run Try.prog wx = .ok true wx := fun wx => by rw [eqAd]; simp
      go_wp2_with fail
      refine (H1.out _).mono ?_
      rintro e w2 ⟨rfl, hb2⟩
      have hz2 := hb2.size
      try simp at hz2
      have Bp2 : Hid (Box w2 (w1.heap.size) [.bool s, .int .i64 h, .int .i64 l, .int .i64 b]) := Box.below (Box.new (p := w1.heap.size) [.bool s, .int .i64 h, .int .i64 l, .int .i64 b] 27 (by first | rfl | (simp; done))) hb2
      obtain ⟨lp, zp⟩ := Bp2.out
      have mp := Nat.lt_succ_of_lt lp
      have cp0 := zp 0 _ rfl
      have cp1 := zp 1 _ rfl
      have cp2 := zp 2 _ rfl
      have cp3 := zp 3 _ rfl
      clear zp
      go_wp2_with fail
      clear lp mp cp0 cp1 cp2 cp3
      refine (H2.out _).mono ?_
      rintro e w3 ⟨rfl, hb3⟩
      have hz3 := hb3.size
      try simp at hz3
      have Bp3 : Hid (Box w3 (w1.heap.size) [.bool s, .int .i64 h, .int .i64 l, .int .i64 b]) := Box.below (Box.more (Box.more (Bp2.out) _) _) hb3
      have Bx3 : Hid (Box w3 (w2.heap.size) [.bool s, .int .i64 h, .int .i64 l, .int .i64 b1]) := Box.below (Box.more (Box.new (p := w2.heap.size) [.bool s, .int .i64 h, .int .i64 l, .int .i64 b1] 27 (by first | rfl | (simp; done))) _) hb3
      have By3 : Hid (Box w3 (w2.heap.size + 1) [.bool s, .int .i64 u, .int .i64 v, .int .i64 b1]) := Box.below (Box.new (p := w2.heap.size + 1) [.bool s, .int .i64 u, .int .i64 v, .int .i64 b1] 27 (by first | rfl | (simp; done))) hb3
      clear Bp2
      obtain ⟨lx, zx⟩ := Bx3.out
      have mx := Nat.lt_succ_of_lt lx
      have cx0 := zx 0 _ rfl
      have cx1 := zx 1 _ rfl
      have cx2 := zx 2 _ rfl
      have cx3 := zx 3 _ rfl
      clear zx
      go_wp2_with fail
      clear lx mx cx0 cx1 cx2 cx3
      refine (H3.out _).mono ?_
      rintro e w4 ⟨rfl, hb4⟩
      have hz4 := hb4.size
      try simp at hz4
      have Bp4 : Hid (Box w4 (w1.heap.size) [.bool s, .int .i64 h, .int .i64 l, .int .i64 b]) := Box.below (Box.more (Box.more (Bp3.out) _) _) hb4
      have Bx4 : Hid (Box w4 (w2.heap.size) [.bool s, .int .i64 h, .int .i64 l, .int .i64 b1]) := Box.below (Box.more (Box.more (Bx3.out) _) _) hb4
      have By4 : Hid (Box w4 (w2.heap.size + 1) [.bool s, .int .i64 u, .int .i64 v, .int .i64 b1]) := Box.below (Box.more (Box.more (By3.out) _) _) hb4
      have Bq4 : Hid (Box w4 (w3.heap.size) [.bool s, .int .i64 h, .int .i64 l, .int .i64 b1]) := Box.below (Box.more (Box.new (p := w3.heap.size) [.bool s, .int .i64 h, .int .i64 l, .int .i64 b1] 27 (by first | rfl | (simp; done))) _) hb4
      have Br4 : Hid (Box w4 (w3.heap.size + 1) [.bool s, .int .i64 u, .int .i64 v, .int .i64 b1]) := Box.below (Box.new (p := w3.heap.size + 1) [.bool s, .int .i64 u, .int .i64 v, .int .i64 b1] 27 (by first | rfl | (simp; done))) hb4
      clear Bp3 Bx3 By3
      obtain ⟨ly, zy⟩ := By4.out
      have my := Nat.lt_succ_of_lt ly
      have cy0 := zy 0 _ rfl
      have cy1 := zy 1 _ rfl
      have cy2 := zy 2 _ rfl
      have cy3 := zy 3 _ rfl
      clear zy
      go_wp2_with fail
      clear ly my cy0 cy1 cy2 cy3
      refine (H4.out _).mono ?_
      rintro e w5 ⟨rfl, hb5⟩
      have hz5 := hb5.size
      try simp at hz5
      have Bp5 : Hid (Box w5 (w1.heap.size) [.bool s, .int .i64 h, .int .i64 l, .int .i64 b]) := Box.below (Box.more (Bp4.out) _) hb5
      have Bx5 : Hid (Box w5 (w2.heap.size) [.bool s, .int .i64 h, .int .i64 l, .int .i64 b1]) := Box.below (Box.more (Bx4.out) _) hb5
      have By5 : Hid (Box w5 (w2.heap.size + 1) [.bool s, .int .i64 u, .int .i64 v, .int .i64 b1]) := Box.below (Box.more (By4.out) _) hb5
      have Bq5 : Hid (Box w5 (w3.heap.size) [.bool s, .int .i64 h, .int .i64 l, .int .i64 b1]) := Box.below (Box.more (Bq4.out) _) hb5
      have Br5 : Hid (Box w5 (w3.heap.size + 1) [.bool s, .int .i64 u, .int .i64 v, .int .i64 b1]) := Box.below (Box.more (Br4.out) _) hb5
      have Bua5 : Hid (Box w5 (w4.heap.size) [.bool s, .int .i64 h, .int .i64 l, .int .i64 b]) := Box.below (Box.new (p := w4.heap.size) [.bool s, .int .i64 h, .int .i64 l, .int .i64 b] 27 (by first | rfl | (simp; done))) hb5
      clear Bp4 Bx4 By4 Bq4 Br4
      obtain ⟨lx, zx⟩ := Bx5.out
      have mx := Nat.lt_succ_of_lt lx
      have cx0 := zx 0 _ rfl
      have cx1 := zx 1 _ rfl
      have cx2 := zx 2 _ rfl
      have cx3 := zx 3 _ rfl
      clear zx
      go_wp2_with fail
      clear lx mx cx0 cx1 cx2 cx3
      refine (H5.out _).mono ?_
      rintro e w6 ⟨rfl, hb6⟩
      have hz6 := hb6.size
      try simp at hz6
      have Bp6 : Hid (Box w6 (w1.heap.size) [.bool s, .int .i64 h, .int .i64 l, .int .i64 b]) := Box.below (Box.more (Bp5.out) _) hb6
      have Bx6 : Hid (Box w6 (w2.heap.size) [.bool s, .int .i64 h, .int .i64 l, .int .i64 b1]) := Box.below (Box.more (Bx5.out) _) hb6
      have By6 : Hid (Box w6 (w2.heap.size + 1) [.bool s, .int .i64 u, .int .i64 v, .int .i64 b1]) := Box.below (Box.more (By5.out) _) hb6
      have Bq6 : Hid (Box w6 (w3.heap.size) [.bool s, .int .i64 h, .int .i64 l, .int .i64 b1]) := Box.below (Box.more (Bq5.out) _) hb6
      have Br6 : Hid (Box w6 (w3.heap.size + 1) [.bool s, .int .i64 u, .int .i64 v, .int .i64 b1]) := Box.below (Box.more (Br5.out) _) hb6
      have Bua6 : Hid (Box w6 (w4.heap.size) [.bool s, .int .i64 h, .int .i64 l, .int .i64 b]) := Box.below (Box.more (Bua5.out) _) hb6
      have Bub6 : Hid (Box w6 (w5.heap.size) [.bool s, .int .i64 h, .int .i64 l, .int .i64 b]) := Box.below (Box.new (p := w5.heap.size) [.bool s, .int .i64 h, .int .i64 l, .int .i64 b] 27 (by first | rfl | (simp; done))) hb6
      clear Bp5 Bx5 By5 Bq5 Br5 Bua5
      obtain ⟨ly, zy⟩ := By6.out
      have my := Nat.lt_succ_of_lt ly
      have cy0 := zy 0 _ rfl
      have cy1 := zy 1 _ rfl
      have cy2 := zy 2 _ rfl
      have cy3 := zy 3 _ rfl
      clear zy
      go_wp2_with fail
      clear ly my cy0 cy1 cy2 cy3
      refine (H6.out _).mono ?_
      rintro e w7 ⟨rfl, hb7⟩
      have hz7 := hb7.size
      try simp at hz7
      have Bp7 : Hid (Box w7 (w1.heap.size) [.bool s, .int .i64 h, .int .i64 l, .int .i64 b]) := Box.below (Box.more (Bp6.out) _) hb7
      have Bx7 : Hid (Box w7 (w2.heap.size) [.bool s, .int .i64 h, .int .i64 l, .int .i64 b1]) := Box.below (Box.more (Bx6.out) _) hb7
      have By7 : Hid (Box w7 (w2.heap.size + 1) [.bool s, .int .i64 u, .int .i64 v, .int .i64 b1]) := Box.below (Box.more (By6.out) _) hb7
      have Bq7 : Hid (Box w7 (w3.heap.size) [.bool s, .int .i64 h, .int .i64 l, .int .i64 b1]) := Box.below (Box.more (Bq6.out) _) hb7
      have Br7 : Hid (Box w7 (w3.heap.size + 1) [.bool s, .int .i64 u, .int .i64 v, .int .i64 b1]) := Box.below (Box.more (Br6.out) _) hb7
      have Bua7 : Hid (Box w7 (w4.heap.size) [.bool s, .int .i64 h, .int .i64 l, .int .i64 b]) := Box.below (Box.more (Bua6.out) _) hb7
      have Bub7 : Hid (Box w7 (w5.heap.size) [.bool s, .int .i64 h, .int .i64 l, .int .i64 b]) := Box.below (Box.more (Bub6.out) _) hb7
      have Bus7 : Hid (Box w7 (w6.heap.size) [.bool s, .int .i64 u, .int .i64 v, .int .i64 b1]) := Box.below (Box.new (p := w6.heap.size) [.bool s, .int .i64 u, .int .i64 v, .int .i64 b1] 27 (by first | rfl | (simp; done))) hb7
      clear Bp6 Bx6 By6 Bq6 Br6 Bua6 Bub6
      obtain ⟨lx, zx⟩ := Bx7.out
      have mx := Nat.lt_succ_of_lt lx
      have cx0 := zx 0 _ rfl
      have cx1 := zx 1 _ rfl
      have cx2 := zx 2 _ rfl
      have cx3 := zx 3 _ rfl
      clear zx
      go_wp2_with fail
      clear lx mx cx0 cx1 cx2 cx3
      refine (H7.out _).mono ?_
      rintro e w8 ⟨rfl, hb8⟩
      have hz8 := hb8.size
      try simp at hz8
      have Bp8 : Hid (Box w8 (w1.heap.size) [.bool s, .int .i64 h, .int .i64 l, .int .i64 b]) := Box.below (Box.more (Bp7.out) _) hb8
      have Bx8 : Hid (Box w8 (w2.heap.size) [.bool s, .int .i64 h, .int .i64 l, .int .i64 b1]) := Box.below (Box.more (Bx7.out) _) hb8
      have By8 : Hid (Box w8 (w2.heap.size + 1) [.bool s, .int .i64 u, .int .i64 v, .int .i64 b1]) := Box.below (Box.more (By7.out) _) hb8
      have Bq8 : Hid (Box w8 (w3.heap.size) [.bool s, .int .i64 h, .int .i64 l, .int .i64 b1]) := Box.below (Box.more (Bq7.out) _) hb8
      have Br8 : Hid (Box w8 (w3.heap.size + 1) [.bool s, .int .i64 u, .int .i64 v, .int .i64 b1]) := Box.below (Box.more (Br7.out) _) hb8
      have Bua8 : Hid (Box w8 (w4.heap.size) [.bool s, .int .i64 h, .int .i64 l, .int .i64 b]) := Box.below (Box.more (Bua7.out) _) hb8
      have Bub8 : Hid (Box w8 (w5.heap.size) [.bool s, .int .i64 h, .int .i64 l, .int .i64 b]) := Box.below (Box.more (Bub7.out) _) hb8
      have Bus8 : Hid (Box w8 (w6.heap.size) [.bool s, .int .i64 u, .int .i64 v, .int .i64 b1]) := Box.below (Box.more (Bus7.out) _) hb8
      have Buf8 : Hid (Box w8 (w7.heap.size) [.bool s, .int .i64 u, .int .i64 v]) := Box.below (Box.new (p := w7.heap.size) [.bool s, .int .i64 u, .int .i64 v] 25 (by first | rfl | (simp; done))) hb8
      clear Bp7 Bx7 By7 Bq7 Br7 Bua7 Bub7 Bus7
      go_wp2_with fail
      refine (H8.out _).mono ?_
      rintro e w9 ⟨rfl, hb9⟩
      have hz9 := hb9.size
      try simp at hz9
      have Bp9 : Hid (Box w9 (w1.heap.size) [.bool s, .int .i64 h, .int .i64 l, .int .i64 b]) := Box.below (Box.more (Bp8.out) _) hb9
      have Bx9 : Hid (Box w9 (w2.heap.size) [.bool s, .int .i64 h, .int .i64 l, .int .i64 b1]) := Box.below (Box.more (Bx8.out) _) hb9
      have By9 : Hid (Box w9 (w2.heap.size + 1) [.bool s, .int .i64 u, .int .i64 v, .int .i64 b1]) := Box.below (Box.more (By8.out) _) hb9
      have Bq9 : Hid (Box w9 (w3.heap.size) [.bool s, .int .i64 h, .int .i64 l, .int .i64 b1]) := Box.below (Box.more (Bq8.out) _) hb9
      have Br9 : Hid (Box w9 (w3.heap.size + 1) [.bool s, .int .i64 u, .int .i64 v, .int .i64 b1]) := Box.below (Box.more (Br8.out) _) hb9
      have Bua9 : Hid (Box w9 (w4.heap.size) [.bool s, .int .i64 h, .int .i64 l, .int .i64 b]) := Box.below (Box.more (Bua8.out) _) hb9
      have Bub9 : Hid (Box w9 (w5.heap.size) [.bool s, .int .i64 h, .int .i64 l, .int .i64 b]) := Box.below (Box.more (Bub8.out) _) hb9
      have Bus9 : Hid (Box w9 (w6.heap.size) [.bool s, .int .i64 u, .int .i64 v, .int .i64 b1]) := Box.below (Box.more (Bus8.out) _) hb9
      have Buf9 : Hid (Box w9 (w7.heap.size) [.bool s, .int .i64 u, .int .i64 v]) := Box.below (Box.more (Buf8.out) _) hb9
      have Bul9 : Hid (Box w9 (w8.heap.size) [.bool s, .int .i64 m1, .int .i64 m2]) := Box.below (Box.new (p := w8.heap.size) [.bool s, .int .i64 m1, .int .i64 m2] 25 (by first | rfl | (simp; done))) hb9
      clear Bp8 Bx8 By8 Bq8 Br8 Bua8 Bub8 Bus8 Buf8
      obtain ⟨lp, zp⟩ := Bp9.out
      have mp := Nat.lt_succ_of_lt lp
      have cp0 := zp 0 _ rfl
      have cp1 := zp 1 _ rfl
      have cp2 := zp 2 _ rfl
      have cp3 := zp 3 _ rfl
      clear zp
      go_wp2_with fail
      clear lp mp cp0 cp1 cp2 cp3
      refine (H9.out _).mono ?_
      rintro e w10 ⟨rfl, hb10⟩
      have hz10 := hb10.size
      try simp at hz10
      have Bp10 : Hid (Box w10 (w1.heap.size) [.bool s, .int .i64 h, .int .i64 l, .int .i64 b]) := Box.below (Box.more (Bp9.out) _) hb10
      have Bx10 : Hid (Box w10 (w2.heap.size) [.bool s, .int .i64 h, .int .i64 l, .int .i64 b1]) := Box.below (Box.more (Bx9.out) _) hb10
      have By10 : Hid (Box w10 (w2.heap.size + 1) [.bool s, .int .i64 u, .int .i64 v, .int .i64 b1]) := Box.below (Box.more (By9.out) _) hb10
      have Bq10 : Hid (Box w10 (w3.heap.size) [.bool s, .int .i64 h, .int .i64 l, .int .i64 b1]) := Box.below (Box.more (Bq9.out) _) hb10
      have Br10 : Hid (Box w10 (w3.heap.size + 1) [.bool s, .int .i64 u, .int .i64 v, .int .i64 b1]) := Box.below (Box.more (Br9.out) _) hb10
      have Bua10 : Hid (Box w10 (w4.heap.size) [.bool s, .int .i64 h, .int .i64 l, .int .i64 b]) := Box.below (Box.more (Bua9.out) _) hb10
      have Bub10 : Hid (Box w10 (w5.heap.size) [.bool s, .int .i64 h, .int .i64 l, .int .i64 b]) := Box.below (Box.more (Bub9.out) _) hb10
      have Bus10 : Hid (Box w10 (w6.heap.size) [.bool s, .int .i64 u, .int .i64 v, .int .i64 b1]) := Box.below (Box.more (Bus9.out) _) hb10
      have Buf10 : Hid (Box w10 (w7.heap.size) [.bool s, .int .i64 u, .int .i64 v]) := Box.below (Box.more (Buf9.out) _) hb10
      have Bul10 : Hid (Box w10 (w8.heap.size) [.bool s, .int .i64 m1, .int .i64 m2]) := Box.below (Box.more (Bul9.out) _) hb10
      have Bun10 : Hid (Box w10 (w9.heap.size) [.bool s, .int .i64 u, .int .i64 v]) := Box.below (Box.new (p := w9.heap.size) [.bool s, .int .i64 u, .int .i64 v] 25 (by first | rfl | (simp; done))) hb10
      clear Bp9 Bx9 By9 Bq9 Br9 Bua9 Bub9 Bus9 Buf9 Bul9
      obtain ⟨ly, zy⟩ := By10.out
      have my := Nat.lt_succ_of_lt ly
      have cy0 := zy 0 _ rfl
      have cy1 := zy 1 _ rfl
      have cy2 := zy 2 _ rfl
      have cy3 := zy 3 _ rfl
      clear zy
      go_wp2_with fail
      clear ly my cy0 cy1 cy2 cy3
      refine (H10.out _).mono ?_
      rintro e w11 ⟨rfl, hb11⟩
      have hz11 := hb11.size
      try simp at hz11
      have Bp11 : Hid (Box w11 (w1.heap.size) [.bool s, .int .i64 h, .int .i64 l, .int .i64 b]) := Box.below (Box.more (Bp10.out) _) hb11
      have Bx11 : Hid (Box w11 (w2.heap.size) [.bool s, .int .i64 h, .int .i64 l, .int .i64 b1]) := Box.below (Box.more (Bx10.out) _) hb11
      have By11 : Hid (Box w11 (w2.heap.size + 1) [.bool s, .int .i64 u, .int .i64 v, .int .i64 b1]) := Box.below (Box.more (By10.out) _) hb11
      have Bq11 : Hid (Box w11 (w3.heap.size) [.bool s, .int .i64 h, .int .i64 l, .int .i64 b1]) := Box.below (Box.more (Bq10.out) _) hb11
      have Br11 : Hid (Box w11 (w3.heap.size + 1) [.bool s, .int .i64 u, .int .i64 v, .int .i64 b1]) := Box.below (Box.more (Br10.out) _) hb11
      have Bua11 : Hid (Box w11 (w4.heap.size) [.bool s, .int .i64 h, .int .i64 l, .int .i64 b]) := Box.below (Box.more (Bua10.out) _) hb11
      have Bub11 : Hid (Box w11 (w5.heap.size) [.bool s, .int .i64 h, .int .i64 l, .int .i64 b]) := Box.below (Box.more (Bub10.out) _) hb11
      have Bus11 : Hid (Box w11 (w6.heap.size) [.bool s, .int .i64 u, .int .i64 v, .int .i64 b1]) := Box.below (Box.more (Bus10.out) _) hb11
      have Buf11 : Hid (Box w11 (w7.heap.size) [.bool s, .int .i64 u, .int .i64 v]) := Box.below (Box.more (Buf10.out) _) hb11
      have Bul11 : Hid (Box w11 (w8.heap.size) [.bool s, .int .i64 m1, .int .i64 m2]) := Box.below (Box.more (Bul10.out) _) hb11
      have Bun11 : Hid (Box w11 (w9.heap.size) [.bool s, .int .i64 u, .int .i64 v]) := Box.below (Box.more (Bun10.out) _) hb11
      have Bue11 : Hid (Box w11 (w10.heap.size) [.bool s, .int .i64 n1, .int .i64 n2]) := Box.below (Box.new (p := w10.heap.size) [.bool s, .int .i64 n1, .int .i64 n2] 25 (by first | rfl | (simp; done))) hb11
      clear Bp10 Bx10 By10 Bq10 Br10 Bua10 Bub10 Bus10 Buf10 Bul10 Bun10
      obtain ⟨lp, zp⟩ := Bp11.out
      have mp := Nat.lt_succ_of_lt lp
      have cp0 := zp 0 _ rfl
      have cp1 := zp 1 _ rfl
      have cp2 := zp 2 _ rfl
      have cp3 := zp 3 _ rfl
      clear zp
      obtain ⟨lx, zx⟩ := Bx11.out
      have mx := Nat.lt_succ_of_lt lx
      have cx0 := zx 0 _ rfl
      have cx1 := zx 1 _ rfl
      have cx2 := zx 2 _ rfl
      have cx3 := zx 3 _ rfl
      clear zx
      go_wp2_with fail
      clear lp mp cp0 cp1 cp2 cp3 lx mx cx0 cx1 cx2 cx3
      refine (H11.out _).mono ?_
      rintro e w12 ⟨rfl, hb12⟩
      have hz12 := hb12.size
      try simp at hz12
      have Bp12 : Hid (Box w12 (w1.heap.size) [.bool s, .int .i64 h, .int .i64 l, .int .i64 b]) := Box.below (Box.more (Bp11.out) _) hb12
      have Bx12 : Hid (Box w12 (w2.heap.size) [.bool s, .int .i64 h, .int .i64 l, .int .i64 b1]) := Box.below (Box.more (Bx11.out) _) hb12
      have By12 : Hid (Box w12 (w2.heap.size + 1) [.bool s, .int .i64 u, .int .i64 v, .int .i64 b1]) := Box.below (Box.more (By11.out) _) hb12
      have Bq12 : Hid (Box w12 (w3.heap.size) [.bool s, .int .i64 h, .int .i64 l, .int .i64 b1]) := Box.below (Box.more (Bq11.out) _) hb12
      have Br12 : Hid (Box w12 (w3.heap.size + 1) [.bool s, .int .i64 u, .int .i64 v, .int .i64 b1]) := Box.below (Box.more (Br11.out) _) hb12
      have Bua12 : Hid (Box w12 (w4.heap.size) [.bool s, .int .i64 h, .int .i64 l, .int .i64 b]) := Box.below (Box.more (Bua11.out) _) hb12
      have Bub12 : Hid (Box w12 (w5.heap.size) [.bool s, .int .i64 h, .int .i64 l, .int .i64 b]) := Box.below (Box.more (Bub11.out) _) hb12
      have Bus12 : Hid (Box w12 (w6.heap.size) [.bool s, .int .i64 u, .int .i64 v, .int .i64 b1]) := Box.below (Box.more (Bus11.out) _) hb12
      have Buf12 : Hid (Box w12 (w7.heap.size) [.bool s, .int .i64 u, .int .i64 v]) := Box.below (Box.more (Buf11.out) _) hb12
      have Bul12 : Hid (Box w12 (w8.heap.size) [.bool s, .int .i64 m1, .int .i64 m2]) := Box.below (Box.more (Bul11.out) _) hb12
      have Bun12 : Hid (Box w12 (w9.heap.size) [.bool s, .int .i64 u, .int .i64 v]) := Box.below (Box.more (Bun11.out) _) hb12
      have Bue12 : Hid (Box w12 (w10.heap.size) [.bool s, .int .i64 n1, .int .i64 n2]) := Box.below (Box.more (Bue11.out) _) hb12
      have Buo12 : Hid (Box w12 (w11.heap.size) [.bool s, .int .i64 n1, .int .i64 n2]) := Box.below (Box.new (p := w11.heap.size) [.bool s, .int .i64 n1, .int .i64 n2] 25 (by first | rfl | (simp; done))) hb12
      clear Bp11 Bx11 By11 Bq11 Br11 Bua11 Bub11 Bus11 Buf11 Bul11 Bun11 Bue11
      obtain ⟨lp, zp⟩ := Bp12.out
      have mp := Nat.lt_succ_of_lt lp
      have cp0 := zp 0 _ rfl
      have cp1 := zp 1 _ rfl
      have cp2 := zp 2 _ rfl
      have cp3 := zp 3 _ rfl
      clear zp
      obtain ⟨ly, zy⟩ := By12.out
      have my := Nat.lt_succ_of_lt ly
      have cy0 := zy 0 _ rfl
      have cy1 := zy 1 _ rfl
      have cy2 := zy 2 _ rfl
      have cy3 := zy 3 _ rfl
      clear zy
      go_wp2_with fail
      clear lp mp cp0 cp1 cp2 cp3 ly my cy0 cy1 cy2 cy3
      refine (H12.out _).mono ?_
      rintro e w13 ⟨rfl, hb13⟩
      have hz13 := hb13.size
      try simp at hz13
      have Bp13 : Hid (Box w13 (w1.heap.size) [.bool s, .int .i64 h, .int .i64 l, .int .i64 b]) := Box.below (Bp12.out) hb13
      have Bx13 : Hid (Box w13 (w2.heap.size) [.bool s, .int .i64 h, .int .i64 l, .int .i64 b1]) := Box.below (Bx12.out) hb13
      have By13 : Hid (Box w13 (w2.heap.size + 1) [.bool s, .int .i64 u, .int .i64 v, .int .i64 b1]) := Box.below (By12.out) hb13
      have Bq13 : Hid (Box w13 (w3.heap.size) [.bool s, .int .i64 h, .int .i64 l, .int .i64 b1]) := Box.below (Bq12.out) hb13
      have Br13 : Hid (Box w13 (w3.heap.size + 1) [.bool s, .int .i64 u, .int .i64 v, .int .i64 b1]) := Box.below (Br12.out) hb13
      have Bua13 : Hid (Box w13 (w4.heap.size) [.bool s, .int .i64 h, .int .i64 l, .int .i64 b]) := Box.below (Bua12.out) hb13
      have Bub13 : Hid (Box w13 (w5.heap.size) [.bool s, .int .i64 h, .int .i64 l, .int .i64 b]) := Box.below (Bub12.out) hb13
      have Bus13 : Hid (Box w13 (w6.heap.size) [.bool s, .int .i64 u, .int .i64 v, .int .i64 b1]) := Box.below (Bus12.out) hb13
      have Buf13 : Hid (Box w13 (w7.heap.size) [.bool s, .int .i64 u, .int .i64 v]) := Box.below (Buf12.out) hb13
      have Bul13 : Hid (Box w13 (w8.heap.size) [.bool s, .int .i64 m1, .int .i64 m2]) := Box.below (Bul12.out) hb13
      have Bun13 : Hid (Box w13 (w9.heap.size) [.bool s, .int .i64 u, .int .i64 v]) := Box.below (Bun12.out) hb13
      have Bue13 : Hid (Box w13 (w10.heap.size) [.bool s, .int .i64 n1, .int .i64 n2]) := Box.below (Bue12.out) hb13
      have Buo13 : Hid (Box w13 (w11.heap.size) [.bool s, .int .i64 n1, .int .i64 n2]) := Box.below (Buo12.out) hb13
      clear Bp12 Bx12 By12 Bq12 Br12 Bua12 Bub12 Bus12 Buf12 Bul12 Bun12 Bue12 Buo12
      obtain ⟨lx, zx⟩ := Bx13.out
      have mx := Nat.lt_succ_of_lt lx
      have cx0 := zx 0 _ rfl
      have cx1 := zx 1 _ rfl
      have cx2 := zx 2 _ rfl
      have cx3 := zx 3 _ rfl
      clear zx
      obtain ⟨ly, zy⟩ := By13.out
      have my := Nat.lt_succ_of_lt ly
      have cy0 := zy 0 _ rfl
      have cy1 := zy 1 _ rfl
      have cy2 := zy 2 _ rfl
      have cy3 := zy 3 _ rfl
      clear zy
      go_wp2_with fail
      clear lx mx cx0 cx1 cx2 cx3 ly my cy0 cy1 cy2 cy3
      refine (H13.out _).mono ?_
      rintro e w14 ⟨rfl, hb14⟩
      have hz14 := hb14.size
      try simp at hz14
      have Bp14 : Hid (Box w14 (w1.heap.size) [.bool s, .int .i64 h, .int .i64 l, .int .i64 b]) := Box.below (Bp13.out) hb14
      have Bx14 : Hid (Box w14 (w2.heap.size) [.bool s, .int .i64 h, .int .i64 l, .int .i64 b1]) := Box.below (Bx13.out) hb14
      have By14 : Hid (Box w14 (w2.heap.size + 1) [.bool s, .int .i64 u, .int .i64 v, .int .i64 b1]) := Box.below (By13.out) hb14
      have Bq14 : Hid (Box w14 (w3.heap.size) [.bool s, .int .i64 h, .int .i64 l, .int .i64 b1]) := Box.below (Bq13.out) hb14
      have Br14 : Hid (Box w14 (w3.heap.size + 1) [.bool s, .int .i64 u, .int .i64 v, .int .i64 b1]) := Box.below (Br13.out) hb14
      have Bua14 : Hid (Box w14 (w4.heap.size) [.bool s, .int .i64 h, .int .i64 l, .int .i64 b]) := Box.below (Bua13.out) hb14
      have Bub14 : Hid (Box w14 (w5.heap.size) [.bool s, .int .i64 h, .int .i64 l, .int .i64 b]) := Box.below (Bub13.out) hb14
      have Bus14 : Hid (Box w14 (w6.heap.size) [.bool s, .int .i64 u, .int .i64 v, .int .i64 b1]) := Box.below (Bus13.out) hb14
      have Buf14 : Hid (Box w14 (w7.heap.size) [.bool s, .int .i64 u, .int .i64 v]) := Box.below (Buf13.out) hb14
      have Bul14 : Hid (Box w14 (w8.heap.size) [.bool s, .int .i64 m1, .int .i64 m2]) := Box.below (Bul13.out) hb14
      have Bun14 : Hid (Box w14 (w9.heap.size) [.bool s, .int .i64 u, .int .i64 v]) := Box.below (Bun13.out) hb14
      have Bue14 : Hid (Box w14 (w10.heap.size) [.bool s, .int .i64 n1, .int .i64 n2]) := Box.below (Bue13.out) hb14
      have Buo14 : Hid (Box w14 (w11.heap.size) [.bool s, .int .i64 n1, .int .i64 n2]) := Box.below (Buo13.out) hb14
      clear Bp13 Bx13 By13 Bq13 Br13 Bua13 Bub13 Bus13 Buf13 Bul13 Bun13 Bue13 Buo13
      obtain ⟨lp, zp⟩ := Bp14.out
      have mp := Nat.lt_succ_of_lt lp
      have cp0 := zp 0 _ rfl
      have cp1 := zp 1 _ rfl
      have cp2 := zp 2 _ rfl
      have cp3 := zp 3 _ rfl
      clear zp
      obtain ⟨lx, zx⟩ := Bx14.out
      have mx := Nat.lt_succ_of_lt lx
      have cx0 := zx 0 _ rfl
      have cx1 := zx 1 _ rfl
      have cx2 := zx 2 _ rfl
      have cx3 := zx 3 _ rfl
      clear zx
      go_wp2_with fail
      clear lp mp cp0 cp1 cp2 cp3 lx mx cx0 cx1 cx2 cx3
      refine (H14.out _).mono ?_
      rintro e w15 ⟨rfl, hb15⟩
      have hz15 := hb15.size
      try simp at hz15
      have Bp15 : Hid (Box w15 (w1.heap.size) [.bool s, .int .i64 h, .int .i64 l, .int .i64 b]) := Box.below (Bp14.out) hb15
      have Bx15 : Hid (Box w15 (w2.heap.size) [.bool s, .int .i64 h, .int .i64 l, .int .i64 b1]) := Box.below (Bx14.out) hb15
      have By15 : Hid (Box w15 (w2.heap.size + 1) [.bool s, .int .i64 u, .int .i64 v, .int .i64 b1]) := Box.below (By14.out) hb15
      have Bq15 : Hid (Box w15 (w3.heap.size) [.bool s, .int .i64 h, .int .i64 l, .int .i64 b1]) := Box.below (Bq14.out) hb15
      have Br15 : Hid (Box w15 (w3.heap.size + 1) [.bool s, .int .i64 u, .int .i64 v, .int .i64 b1]) := Box.below (Br14.out) hb15
      have Bua15 : Hid (Box w15 (w4.heap.size) [.bool s, .int .i64 h, .int .i64 l, .int .i64 b]) := Box.below (Bua14.out) hb15
      have Bub15 : Hid (Box w15 (w5.heap.size) [.bool s, .int .i64 h, .int .i64 l, .int .i64 b]) := Box.below (Bub14.out) hb15
      have Bus15 : Hid (Box w15 (w6.heap.size) [.bool s, .int .i64 u, .int .i64 v, .int .i64 b1]) := Box.below (Bus14.out) hb15
      have Buf15 : Hid (Box w15 (w7.heap.size) [.bool s, .int .i64 u, .int .i64 v]) := Box.below (Buf14.out) hb15
      have Bul15 : Hid (Box w15 (w8.heap.size) [.bool s, .int .i64 m1, .int .i64 m2]) := Box.below (Bul14.out) hb15
      have Bun15 : Hid (Box w15 (w9.heap.size) [.bool s, .int .i64 u, .int .i64 v]) := Box.below (Bun14.out) hb15
      have Bue15 : Hid (Box w15 (w10.heap.size) [.bool s, .int .i64 n1, .int .i64 n2]) := Box.below (Bue14.out) hb15
      have Buo15 : Hid (Box w15 (w11.heap.size) [.bool s, .int .i64 n1, .int .i64 n2]) := Box.below (Buo14.out) hb15
      clear Bp14 Bx14 By14 Bq14 Br14 Bua14 Bub14 Bus14 Buf14 Bul14 Bun14 Bue14 Buo14
      obtain ⟨lp, zp⟩ := Bp15.out
      have mp := Nat.lt_succ_of_lt lp
      have cp0 := zp 0 _ rfl
      have cp1 := zp 1 _ rfl
      have cp2 := zp 2 _ rfl
      have cp3 := zp 3 _ rfl
      clear zp
      obtain ⟨lx, zx⟩ := Bx15.out
      have mx := Nat.lt_succ_of_lt lx
      have cx0 := zx 0 _ rfl
      have cx1 := zx 1 _ rfl
      have cx2 := zx 2 _ rfl
      have cx3 := zx 3 _ rfl
      clear zx
      obtain ⟨ly, zy⟩ := By15.out
      have my := Nat.lt_succ_of_lt ly
      have cy0 := zy 0 _ rfl
      have cy1 := zy 1 _ rfl
      have cy2 := zy 2 _ rfl
      have cy3 := zy 3 _ rfl
      clear zy
      obtain ⟨lua, zua⟩ := Bua15.out
      have mua := Nat.lt_succ_of_lt lua
      have cua0 := zua 0 _ rfl
      have cua1 := zua 1 _ rfl
      have cua2 := zua 2 _ rfl
      have cua3 := zua 3 _ rfl
      clear zua
      obtain ⟨lub, zub⟩ := Bub15.out
      have mub := Nat.lt_succ_of_lt lub
      have cub0 := zub 0 _ rfl
      have cub1 := zub 1 _ rfl
      have cub2 := zub 2 _ rfl
      have cub3 := zub 3 _ rfl
      clear zub
      obtain ⟨lus, zus⟩ := Bus15.out
      have mus := Nat.lt_succ_of_lt lus
      have cus0 := zus 0 _ rfl
      have cus1 := zus 1 _ rfl
      have cus2 := zus 2 _ rfl
      have cus3 := zus 3 _ rfl
      clear zus
      obtain ⟨luf, zuf⟩ := Buf15.out
      have muf := Nat.lt_succ_of_lt luf
      have cuf0 := zuf 0 _ rfl
      have cuf1 := zuf 1 _ rfl
      have cuf2 := zuf 2 _ rfl
      clear zuf
      obtain ⟨lun, zun⟩ := Bun15.out
      have mun := Nat.lt_succ_of_lt lun
      have cun0 := zun 0 _ rfl
      have cun1 := zun 1 _ rfl
      have cun2 := zun 2 _ rfl
      clear zun
      obtain ⟨lue, zue⟩ := Bue15.out
      have mue := Nat.lt_succ_of_lt lue
      have cue0 := zue 0 _ rfl
      have cue1 := zue 1 _ rfl
      have cue2 := zue 2 _ rfl
      clear zue
      obtain ⟨luo, zuo⟩ := Buo15.out
      have muo := Nat.lt_succ_of_lt luo
      have cuo0 := zuo 0 _ rfl
      have cuo1 := zuo 1 _ rfl
      have cuo2 := zuo 2 _ rfl
      clear zuo
      go_wp2_with fail
      clear lp mp cp0 cp1 cp2 cp3 lx mx cx0 cx1 cx2 cx3 ly my cy0 cy1 cy2 cy3 lua mua cua0 cua1 cua2 cua3 lub mub cub0 cub1 cub2 cub3 lus mus cus0 cus1 cus2 cus3 luf muf cuf0 cuf1 cuf2 lun mun cun0 cun1 cun2 lue mue cue0 cue1 cue2 luo muo cuo0 cuo1 cuo2
      refine (H15.out _).mono ?_
      rintro e w16 ⟨rfl, hb16⟩
      have hz16 := hb16.size
      try simp at hz16
      have Bp16 : Hid (Box w16 (w1.heap.size) [.bool s, .int .i64 h, .int .i64 l, .int .i64 b]) := Box.below (Bp15.out) hb16
      have Bx16 : Hid (Box w16 (w2.heap.size) [.bool s, .int .i64 h, .int .i64 l, .int .i64 b1]) := Box.below (Bx15.out) hb16
      have By16 : Hid (Box w16 (w2.heap.size + 1) [.bool s, .int .i64 u, .int .i64 v, .int .i64 b1]) := Box.below (By15.out) hb16
      have Bq16 : Hid (Box w16 (w3.heap.size) [.bool s, .int .i64 h, .int .i64 l, .int .i64 b1]) := Box.below (Bq15.out) hb16
      have Br16 : Hid (Box w16 (w3.heap.size + 1) [.bool s, .int .i64 u, .int .i64 v, .int .i64 b1]) := Box.below (Br15.out) hb16
      have Bua16 : Hid (Box w16 (w4.heap.size) [.bool s, .int .i64 h, .int .i64 l, .int .i64 b]) := Box.below (Bua15.out) hb16
      have Bub16 : Hid (Box w16 (w5.heap.size) [.bool s, .int .i64 h, .int .i64 l, .int .i64 b]) := Box.below (Bub15.out) hb16
      have Bus16 : Hid (Box w16 (w6.heap.size) [.bool s, .int .i64 u, .int .i64 v, .int .i64 b1]) := Box.below (Bus15.out) hb16
      have Buf16 : Hid (Box w16 (w7.heap.size) [.bool s, .int .i64 u, .int .i64 v]) := Box.below (Buf15.out) hb16
      have Bul16 : Hid (Box w16 (w8.heap.size) [.bool s, .int .i64 m1, .int .i64 m2]) := Box.below (Bul15.out) hb16
      have Bun16 : Hid (Box w16 (w9.heap.size) [.bool s, .int .i64 u, .int .i64 v]) := Box.below (Bun15.out) hb16
      have Bue16 : Hid (Box w16 (w10.heap.size) [.bool s, .int .i64 n1, .int .i64 n2]) := Box.below (Bue15.out) hb16
      have Buo16 : Hid (Box w16 (w11.heap.size) [.bool s, .int .i64 n1, .int .i64 n2]) := Box.below (Buo15.out) hb16
      clear Bp15 Bx15 By15 Bq15 Br15 Bua15 Bub15 Bus15 Buf15 Bul15 Bun15 Bue15 Buo15
      go_wp2_with fail
      go_ret
      refine ⟨rfl, ?_⟩
      repeat (first | with_reducible exact Below.refl _ _ | (with_reducible refine Below.drew ?_) | (with_reducible refine Below.alloc ?_ ?_ _; rotate_left; (focus (first | omega | (simp; omega) | (simp; done)))) | (with_reducible refine Below.setCell ?_ ?_ _; rotate_left; (focus (first | omega | (simp; omega) | (simp; done)))) | (with_reducible refine Below.trans ?_ (hb16.mono ?_); rotate_left; (focus (first | omega | (simp; omega) | (simp; done)))) | (with_reducible refine Below.trans ?_ (hb15.mono ?_); rotate_left; (focus (first | omega | (simp; omega) | (simp; done)))) | (with_reducible refine Below.trans ?_ (hb14.mono ?_); rotate_left; (focus (first | omega | (simp; omega) | (simp; done)))) | (with_reducible refine Below.trans ?_ (hb13.mono ?_); rotate_left; (focus (first | omega | (simp; omega) | (simp; done)))) | (with_reducible refine Below.trans ?_ (hb12.mono ?_); rotate_left; (focus (first | omega | (simp; omega) | (simp; done)))) | (with_reducible refine Below.trans ?_ (hb11.mono ?_); rotate_left; (focus (first | omega | (simp; omega) | (simp; done)))) | (with_reducible refine Below.trans ?_ (hb10.mono ?_); rotate_left; (focus (first | omega | (simp; omega) | (simp; done)))) | (with_reducible refine Below.trans ?_ (hb9.mono ?_); rotate_left; (focus (first | omega | (simp; omega) | (simp; done)))) | (with_reducible refine Below.trans ?_ (hb8.mono ?_); rotate_left; (focus (first | omega | (simp; omega) | (simp; done)))) | (with_reducible refine Below.trans ?_ (hb7.mono ?_); rotate_left; (focus (first | omega | (simp; omega) | (simp; done)))) | (with_reducible refine Below.trans ?_ (hb6.mono ?_); rotate_left; (focus (first | omega | (simp; omega) | (simp; done)))) | (with_reducible refine Below.trans ?_ (hb5.mono ?_); rotate_left; (focus (first | omega | (simp; omega) | (simp; done)))) | (with_reducible refine Below.trans ?_ (hb4.mono ?_); rotate_left; (focus (first | omega | (simp; omega) | (simp; done)))) | (with_reducible refine Below.trans ?_ (hb3.mono ?_); rotate_left; (focus (first | omega | (simp; omega) | (simp; done)))) | (with_reducible refine Below.trans ?_ (hb2.mono ?_); rotate_left; (focus (first | omega | (simp; omega) | (simp; done)))) | (with_reducible refine Below.trans ?_ (hb1.mono ?_); rotate_left; (focus (first | omega | (simp; omega) | (simp; done)))))

end Go.Proofs.Ytkmfbbcofojfaaa
