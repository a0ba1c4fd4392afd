/-
  The specification's l8In and l14Zero: what a kind does not name is zero.
-/
import Derived.Test.YtgenjjhchnnpnaaDoorV14M
namespace Go.Proofs.YtgenjjhchnnpnaaDoor
open Go.ChangeShapes Go.WideShapes Go.ChangeAt Go.RowKit Go.Joins Go.Deep

theorem ret_b14 {a b : Bool} (h : a = b) : Ending.returned (.bool a) = .returned (.bool b) := by rw [h]
def has14 (X : ByteArray) (f : Int) : Bool := X.data.toList.any (fun c => (c.toNat : Int) == f)
theorem has14_take (X : ByteArray) (f : Int) (k : Nat) (h : k < X.size) : (X.data.toList.take (k + 1)).any (fun c => (c.toNat : Int) == f) = ((X.data.toList.take k).any (fun c => (c.toNat : Int) == f) || ((X[k]'h).toNat : Int) == f) := by
  rw [List.take_succ_eq_append_getElem (by simpa using h), List.any_append]; simp; rfl
theorem has14_hit (X : ByteArray) (f : Int) (k : Nat) (h : k < X.size) (hf : (((X[k]'h).toNat : Int) == f) = true) : has14 X f = true := by
  unfold has14
  rw [List.any_eq_true]
  exact ⟨X[k], by show X.data[k] ∈ _; simp, hf⟩
set_option maxHeartbeats 400000 in
theorem in14_any (X : ByteArray) (f : Int) (hX : X.size ≤ 100) (w : World) : Calls Tryd.prog 29 #[.string X, .int .u8 f] w fun e w' => e = .returned (.bool (has14 X f)) ∧ w = w' := by
  go_enter Tryd.func29, Tryd.ntmps29
  go_wp2
  go_loop [5] (fun i => ∃ k : Nat, k ≤ X.size ∧ i = .int .i64 k ∧ Hid ((X.data.toList.take k).any (fun c => (c.toNat : Int) == f) = false)) (fun i => X.size - (intOf i).toNat)
  case atStart => exact ⟨0, Nat.zero_le _, rfl, hidP (by simp)⟩
  case round =>
    obtain ⟨k, hk, rfl, HA⟩ := hrel
    by_cases hlt : k < X.size
    · cases hc : ((X[k].toNat : Int) == f)
      · have HS := hidP (has14_take X f k hlt)
        go_wp2
        go_round
        case rel => exact ⟨k + 1, by omega, by go_num, hidP (by rw [HS.out, HA.out, hc]; rfl)⟩
        case measure => simp [intOf]; omega
      · have HF := hidP (has14_hit X f k hlt hc)
        go_wp2
        go_ret
        exact ⟨ret_b14 HF.out.symm, rfl⟩
    · have HF : Hid (has14 X f = false) := hidP (by unfold has14; have := HA.out; rw [List.take_of_length_le (by simp; omega)] at this; exact this)
      go_wp2
      go_ret
      exact ⟨ret_b14 HF.out.symm, rfl⟩
theorem in14_r (X : ByteArray) (f : Int) (r : Bool) (hX : X.size ≤ 100) (h : has14 X f = r) (w : World) : Calls Tryd.prog 29 #[.string X, .int .u8 f] w fun e w' => e = .returned (.bool r) ∧ w = w' := h ▸ in14_any X f hX w

theorem box12z (w : World) (t : TypeId) (x0 x1 x2 x3 x4 x5 x6 x7 x8 x9 x10 x11 : Value) : (w.alloc (.cells #[x0, x1, x2, x3, x4, x5, x6, x7, x8, x9, x10, x11] t)).cell? ⟨w.heap.size, 0, none⟩ = some x0 ∧ (w.alloc (.cells #[x0, x1, x2, x3, x4, x5, x6, x7, x8, x9, x10, x11] t)).cell? ⟨w.heap.size, 1, none⟩ = some x1 ∧ (w.alloc (.cells #[x0, x1, x2, x3, x4, x5, x6, x7, x8, x9, x10, x11] t)).cell? ⟨w.heap.size, 2, none⟩ = some x2 ∧ (w.alloc (.cells #[x0, x1, x2, x3, x4, x5, x6, x7, x8, x9, x10, x11] t)).cell? ⟨w.heap.size, 3, none⟩ = some x3 ∧ (w.alloc (.cells #[x0, x1, x2, x3, x4, x5, x6, x7, x8, x9, x10, x11] t)).cell? ⟨w.heap.size, 4, none⟩ = some x4 ∧ (w.alloc (.cells #[x0, x1, x2, x3, x4, x5, x6, x7, x8, x9, x10, x11] t)).cell? ⟨w.heap.size, 5, none⟩ = some x5 ∧ (w.alloc (.cells #[x0, x1, x2, x3, x4, x5, x6, x7, x8, x9, x10, x11] t)).cell? ⟨w.heap.size, 6, none⟩ = some x6 ∧ (w.alloc (.cells #[x0, x1, x2, x3, x4, x5, x6, x7, x8, x9, x10, x11] t)).cell? ⟨w.heap.size, 7, none⟩ = some x7 ∧ (w.alloc (.cells #[x0, x1, x2, x3, x4, x5, x6, x7, x8, x9, x10, x11] t)).cell? ⟨w.heap.size, 8, none⟩ = some x8 ∧ (w.alloc (.cells #[x0, x1, x2, x3, x4, x5, x6, x7, x8, x9, x10, x11] t)).cell? ⟨w.heap.size, 9, none⟩ = some x9 ∧ (w.alloc (.cells #[x0, x1, x2, x3, x4, x5, x6, x7, x8, x9, x10, x11] t)).cell? ⟨w.heap.size, 10, none⟩ = some x10 ∧ (w.alloc (.cells #[x0, x1, x2, x3, x4, x5, x6, x7, x8, x9, x10, x11] t)).cell? ⟨w.heap.size, 11, none⟩ = some x11 := ⟨by simp [go_sem], by simp [go_sem], by simp [go_sem], by simp [go_sem], by simp [go_sem], by simp [go_sem], by simp [go_sem], by simp [go_sem], by simp [go_sem], by simp [go_sem], by simp [go_sem], by simp [go_sem]⟩
/-- Is all zero that is not named? -/
def zB (i n e o d : Bool) (m : Mg) : Bool := !(((!i && !n) && (m.I != 0)) || ((!i && (m.L != 0)) || ((!e && (decide (0 < (m.en : Int)) || (m.C != 0))) || ((!o && m.O) || (!d && (decide (0 < (m.dn : Int)) || (decide (0 < (m.gn : Int)) || decide (0 < (m.hn : Int)))))))))

set_option maxRecDepth 10000 in
set_option maxHeartbeats 8000000 in
theorem lz_1 (m : Mg) (w : World) :
    Calls Tryd.prog 14 #[m.v, .string ⟨#[105]⟩] w fun e w' => e = .returned (.bool (zB true false false false false m)) ∧ Below w.heap.size w w' := by
  obtain ⟨K, F, T, M, I, L, ea, en, ec, C, O, da, dn, dc, ga, gn, gc, ha, hn, hc, es, ds, ps, bs⟩ := m
  unfold zB
  simp only
  have Hi := hidP (fun W => in14_r ⟨#[105]⟩ 105 true (by decide) (by decide) W)
  have Hn := hidP (fun W => in14_r ⟨#[105]⟩ 110 false (by decide) (by decide) W)
  have He := hidP (fun W => in14_r ⟨#[105]⟩ 101 false (by decide) (by decide) W)
  have Ho := hidP (fun W => in14_r ⟨#[105]⟩ 111 false (by decide) (by decide) W)
  have Hd := hidP (fun W => in14_r ⟨#[105]⟩ 100 false (by decide) (by decide) W)
  by_cases hen : 0 < (en : Int)
  · have pen : decide (0 < (en : Int)) = true := by simpa using hen
    have qen : decide ((en : Int) > 0) = true := pen
    rw [show (!(_ : Bool)) = false from by rw [pen]; rfl]
    go_enter Tryd.func14, Tryd.ntmps14
    go_wp2_with fail
    obtain ⟨b0, b1, b2, b3, b4, b5, b6, b7, b8, b9, b10, b11⟩ := box12z w 34 (.int .i64 K) (.int .i64 F) (.int .i64 T) (.int .i64 M) (.int .i64 I) (.int .i64 L) (.slice ea en ec) (.int .i64 C) (.bool O) (.slice da dn dc) (.slice ga gn gc) (.slice ha hn hc)
    have bB := alloc_below w (.cells #[.int .i64 K, .int .i64 F, .int .i64 T, .int .i64 M, .int .i64 I, .int .i64 L, .slice ea en ec, .int .i64 C, .bool O, .slice da dn dc, .slice ga gn gc, .slice ha hn hc] 34)
    have bL : w.heap.size < (w.alloc (.cells #[.int .i64 K, .int .i64 F, .int .i64 T, .int .i64 M, .int .i64 I, .int .i64 L, .slice ea en ec, .int .i64 C, .bool O, .slice da dn dc, .slice ga gn gc, .slice ha hn hc] 34)).heap.size := by simp
    generalize w.alloc (.cells #[.int .i64 K, .int .i64 F, .int .i64 T, .int .i64 M, .int .i64 I, .int .i64 L, .slice ea en ec, .int .i64 C, .bool O, .slice da dn dc, .slice ga gn gc, .slice ha hn hc] 34) = W1 at *
    refine (Hi.out _).mono ?_
    rintro e0 w0 ⟨rfl, rfl⟩
    go_wp2_with fail
    refine (He.out _).mono ?_
    rintro e0 w0 ⟨rfl, rfl⟩
    go_wp2_with fail
    go_ret
    exact ⟨rfl, bB⟩
  · have pen : decide (0 < (en : Int)) = false := by simpa using hen
    have qen : decide ((en : Int) > 0) = false := pen
    by_cases hC : C ≠ 0
    · have pC : (C == 0) = false := by simpa using hC
      have qC : (C != 0) = true := by show (!(C == 0)) = true; rw [pC]; rfl
      rw [show (!(_ : Bool)) = false from by rw [pen, qC]; rfl]
      go_enter Tryd.func14, Tryd.ntmps14
      go_wp2_with fail
      obtain ⟨b0, b1, b2, b3, b4, b5, b6, b7, b8, b9, b10, b11⟩ := box12z w 34 (.int .i64 K) (.int .i64 F) (.int .i64 T) (.int .i64 M) (.int .i64 I) (.int .i64 L) (.slice ea en ec) (.int .i64 C) (.bool O) (.slice da dn dc) (.slice ga gn gc) (.slice ha hn hc)
      have bB := alloc_below w (.cells #[.int .i64 K, .int .i64 F, .int .i64 T, .int .i64 M, .int .i64 I, .int .i64 L, .slice ea en ec, .int .i64 C, .bool O, .slice da dn dc, .slice ga gn gc, .slice ha hn hc] 34)
      have bL : w.heap.size < (w.alloc (.cells #[.int .i64 K, .int .i64 F, .int .i64 T, .int .i64 M, .int .i64 I, .int .i64 L, .slice ea en ec, .int .i64 C, .bool O, .slice da dn dc, .slice ga gn gc, .slice ha hn hc] 34)).heap.size := by simp
      generalize w.alloc (.cells #[.int .i64 K, .int .i64 F, .int .i64 T, .int .i64 M, .int .i64 I, .int .i64 L, .slice ea en ec, .int .i64 C, .bool O, .slice da dn dc, .slice ga gn gc, .slice ha hn hc] 34) = W1 at *
      refine (Hi.out _).mono ?_
      rintro e0 w0 ⟨rfl, rfl⟩
      go_wp2_with fail
      refine (He.out _).mono ?_
      rintro e0 w0 ⟨rfl, rfl⟩
      go_wp2_with fail
      go_ret
      exact ⟨rfl, bB⟩
    · have pC : (C == 0) = true := by simpa using hC
      have qC : (C != 0) = false := by show (!(C == 0)) = false; rw [pC]; rfl
      cases hO : O
      case' true =>
        rw [show (!(_ : Bool)) = false from by rw [pen, qC]; rfl]
        subst hO
        go_enter Tryd.func14, Tryd.ntmps14
        go_wp2_with fail
        obtain ⟨b0, b1, b2, b3, b4, b5, b6, b7, b8, b9, b10, b11⟩ := box12z w 34 (.int .i64 K) (.int .i64 F) (.int .i64 T) (.int .i64 M) (.int .i64 I) (.int .i64 L) (.slice ea en ec) (.int .i64 C) (.bool true) (.slice da dn dc) (.slice ga gn gc) (.slice ha hn hc)
        have bB := alloc_below w (.cells #[.int .i64 K, .int .i64 F, .int .i64 T, .int .i64 M, .int .i64 I, .int .i64 L, .slice ea en ec, .int .i64 C, .bool true, .slice da dn dc, .slice ga gn gc, .slice ha hn hc] 34)
        have bL : w.heap.size < (w.alloc (.cells #[.int .i64 K, .int .i64 F, .int .i64 T, .int .i64 M, .int .i64 I, .int .i64 L, .slice ea en ec, .int .i64 C, .bool true, .slice da dn dc, .slice ga gn gc, .slice ha hn hc] 34)).heap.size := by simp
        generalize w.alloc (.cells #[.int .i64 K, .int .i64 F, .int .i64 T, .int .i64 M, .int .i64 I, .int .i64 L, .slice ea en ec, .int .i64 C, .bool true, .slice da dn dc, .slice ga gn gc, .slice ha hn hc] 34) = W1 at *
        refine (Hi.out _).mono ?_
        rintro e0 w0 ⟨rfl, rfl⟩
        go_wp2_with fail
        refine (He.out _).mono ?_
        rintro e0 w0 ⟨rfl, rfl⟩
        go_wp2_with fail
        refine (Ho.out _).mono ?_
        rintro e0 w0 ⟨rfl, rfl⟩
        go_wp2_with fail
        go_ret
        exact ⟨rfl, bB⟩
      case' false =>
        by_cases hdn : 0 < (dn : Int)
        · have pdn : decide (0 < (dn : Int)) = true := by simpa using hdn
          have qdn : decide ((dn : Int) > 0) = true := pdn
          rw [show (!(_ : Bool)) = false from by rw [pen, qC, pdn]; rfl]
          subst hO
          go_enter Tryd.func14, Tryd.ntmps14
          go_wp2_with fail
          obtain ⟨b0, b1, b2, b3, b4, b5, b6, b7, b8, b9, b10, b11⟩ := box12z w 34 (.int .i64 K) (.int .i64 F) (.int .i64 T) (.int .i64 M) (.int .i64 I) (.int .i64 L) (.slice ea en ec) (.int .i64 C) (.bool false) (.slice da dn dc) (.slice ga gn gc) (.slice ha hn hc)
          have bB := alloc_below w (.cells #[.int .i64 K, .int .i64 F, .int .i64 T, .int .i64 M, .int .i64 I, .int .i64 L, .slice ea en ec, .int .i64 C, .bool false, .slice da dn dc, .slice ga gn gc, .slice ha hn hc] 34)
          have bL : w.heap.size < (w.alloc (.cells #[.int .i64 K, .int .i64 F, .int .i64 T, .int .i64 M, .int .i64 I, .int .i64 L, .slice ea en ec, .int .i64 C, .bool false, .slice da dn dc, .slice ga gn gc, .slice ha hn hc] 34)).heap.size := by simp
          generalize w.alloc (.cells #[.int .i64 K, .int .i64 F, .int .i64 T, .int .i64 M, .int .i64 I, .int .i64 L, .slice ea en ec, .int .i64 C, .bool false, .slice da dn dc, .slice ga gn gc, .slice ha hn hc] 34) = W1 at *
          refine (Hi.out _).mono ?_
          rintro e0 w0 ⟨rfl, rfl⟩
          go_wp2_with fail
          refine (He.out _).mono ?_
          rintro e0 w0 ⟨rfl, rfl⟩
          go_wp2_with fail
          refine (Ho.out _).mono ?_
          rintro e0 w0 ⟨rfl, rfl⟩
          go_wp2_with fail
          refine (Hd.out _).mono ?_
          rintro e0 w0 ⟨rfl, rfl⟩
          go_wp2_with fail
          go_ret
          exact ⟨rfl, bB⟩
        · have pdn : decide (0 < (dn : Int)) = false := by simpa using hdn
          have qdn : decide ((dn : Int) > 0) = false := pdn
          by_cases hgn : 0 < (gn : Int)
          · have pgn : decide (0 < (gn : Int)) = true := by simpa using hgn
            have qgn : decide ((gn : Int) > 0) = true := pgn
            rw [show (!(_ : Bool)) = false from by rw [pen, qC, pdn, pgn]; rfl]
            subst hO
            go_enter Tryd.func14, Tryd.ntmps14
            go_wp2_with fail
            obtain ⟨b0, b1, b2, b3, b4, b5, b6, b7, b8, b9, b10, b11⟩ := box12z w 34 (.int .i64 K) (.int .i64 F) (.int .i64 T) (.int .i64 M) (.int .i64 I) (.int .i64 L) (.slice ea en ec) (.int .i64 C) (.bool false) (.slice da dn dc) (.slice ga gn gc) (.slice ha hn hc)
            have bB := alloc_below w (.cells #[.int .i64 K, .int .i64 F, .int .i64 T, .int .i64 M, .int .i64 I, .int .i64 L, .slice ea en ec, .int .i64 C, .bool false, .slice da dn dc, .slice ga gn gc, .slice ha hn hc] 34)
            have bL : w.heap.size < (w.alloc (.cells #[.int .i64 K, .int .i64 F, .int .i64 T, .int .i64 M, .int .i64 I, .int .i64 L, .slice ea en ec, .int .i64 C, .bool false, .slice da dn dc, .slice ga gn gc, .slice ha hn hc] 34)).heap.size := by simp
            generalize w.alloc (.cells #[.int .i64 K, .int .i64 F, .int .i64 T, .int .i64 M, .int .i64 I, .int .i64 L, .slice ea en ec, .int .i64 C, .bool false, .slice da dn dc, .slice ga gn gc, .slice ha hn hc] 34) = W1 at *
            refine (Hi.out _).mono ?_
            rintro e0 w0 ⟨rfl, rfl⟩
            go_wp2_with fail
            refine (He.out _).mono ?_
            rintro e0 w0 ⟨rfl, rfl⟩
            go_wp2_with fail
            refine (Ho.out _).mono ?_
            rintro e0 w0 ⟨rfl, rfl⟩
            go_wp2_with fail
            refine (Hd.out _).mono ?_
            rintro e0 w0 ⟨rfl, rfl⟩
            go_wp2_with fail
            go_ret
            exact ⟨rfl, bB⟩
          · have pgn : decide (0 < (gn : Int)) = false := by simpa using hgn
            have qgn : decide ((gn : Int) > 0) = false := pgn
            by_cases hhn : 0 < (hn : Int)
            · have phn : decide (0 < (hn : Int)) = true := by simpa using hhn
              have qhn : decide ((hn : Int) > 0) = true := phn
              rw [show (!(_ : Bool)) = false from by rw [pen, qC, pdn, pgn, phn]; rfl]
              subst hO
              go_enter Tryd.func14, Tryd.ntmps14
              go_wp2_with fail
              obtain ⟨b0, b1, b2, b3, b4, b5, b6, b7, b8, b9, b10, b11⟩ := box12z w 34 (.int .i64 K) (.int .i64 F) (.int .i64 T) (.int .i64 M) (.int .i64 I) (.int .i64 L) (.slice ea en ec) (.int .i64 C) (.bool false) (.slice da dn dc) (.slice ga gn gc) (.slice ha hn hc)
              have bB := alloc_below w (.cells #[.int .i64 K, .int .i64 F, .int .i64 T, .int .i64 M, .int .i64 I, .int .i64 L, .slice ea en ec, .int .i64 C, .bool false, .slice da dn dc, .slice ga gn gc, .slice ha hn hc] 34)
              have bL : w.heap.size < (w.alloc (.cells #[.int .i64 K, .int .i64 F, .int .i64 T, .int .i64 M, .int .i64 I, .int .i64 L, .slice ea en ec, .int .i64 C, .bool false, .slice da dn dc, .slice ga gn gc, .slice ha hn hc] 34)).heap.size := by simp
              generalize w.alloc (.cells #[.int .i64 K, .int .i64 F, .int .i64 T, .int .i64 M, .int .i64 I, .int .i64 L, .slice ea en ec, .int .i64 C, .bool false, .slice da dn dc, .slice ga gn gc, .slice ha hn hc] 34) = W1 at *
              refine (Hi.out _).mono ?_
              rintro e0 w0 ⟨rfl, rfl⟩
              go_wp2_with fail
              refine (He.out _).mono ?_
              rintro e0 w0 ⟨rfl, rfl⟩
              go_wp2_with fail
              refine (Ho.out _).mono ?_
              rintro e0 w0 ⟨rfl, rfl⟩
              go_wp2_with fail
              refine (Hd.out _).mono ?_
              rintro e0 w0 ⟨rfl, rfl⟩
              go_wp2_with fail
              go_ret
              exact ⟨rfl, bB⟩
            · have phn : decide (0 < (hn : Int)) = false := by simpa using hhn
              have qhn : decide ((hn : Int) > 0) = false := phn
              rw [show (!(_ : Bool)) = true from by rw [pen, qC, pdn, pgn, phn]; rfl]
              subst hO
              go_enter Tryd.func14, Tryd.ntmps14
              go_wp2_with fail
              obtain ⟨b0, b1, b2, b3, b4, b5, b6, b7, b8, b9, b10, b11⟩ := box12z w 34 (.int .i64 K) (.int .i64 F) (.int .i64 T) (.int .i64 M) (.int .i64 I) (.int .i64 L) (.slice ea en ec) (.int .i64 C) (.bool false) (.slice da dn dc) (.slice ga gn gc) (.slice ha hn hc)
              have bB := alloc_below w (.cells #[.int .i64 K, .int .i64 F, .int .i64 T, .int .i64 M, .int .i64 I, .int .i64 L, .slice ea en ec, .int .i64 C, .bool false, .slice da dn dc, .slice ga gn gc, .slice ha hn hc] 34)
              have bL : w.heap.size < (w.alloc (.cells #[.int .i64 K, .int .i64 F, .int .i64 T, .int .i64 M, .int .i64 I, .int .i64 L, .slice ea en ec, .int .i64 C, .bool false, .slice da dn dc, .slice ga gn gc, .slice ha hn hc] 34)).heap.size := by simp
              generalize w.alloc (.cells #[.int .i64 K, .int .i64 F, .int .i64 T, .int .i64 M, .int .i64 I, .int .i64 L, .slice ea en ec, .int .i64 C, .bool false, .slice da dn dc, .slice ga gn gc, .slice ha hn hc] 34) = W1 at *
              refine (Hi.out _).mono ?_
              rintro e0 w0 ⟨rfl, rfl⟩
              go_wp2_with fail
              refine (He.out _).mono ?_
              rintro e0 w0 ⟨rfl, rfl⟩
              go_wp2_with fail
              refine (Ho.out _).mono ?_
              rintro e0 w0 ⟨rfl, rfl⟩
              go_wp2_with fail
              refine (Hd.out _).mono ?_
              rintro e0 w0 ⟨rfl, rfl⟩
              go_wp2_with fail
              go_ret
              exact ⟨rfl, bB⟩

set_option maxRecDepth 10000 in
set_option maxHeartbeats 8000000 in
theorem lz_2 (m : Mg) (w : World) :
    Calls Tryd.prog 14 #[m.v, .string ⟨#[111]⟩] w fun e w' => e = .returned (.bool (zB false false false true false m)) ∧ Below w.heap.size w w' := by
  obtain ⟨K, F, T, M, I, L, ea, en, ec, C, O, da, dn, dc, ga, gn, gc, ha, hn, hc, es, ds, ps, bs⟩ := m
  unfold zB
  simp only
  have Hi := hidP (fun W => in14_r ⟨#[111]⟩ 105 false (by decide) (by decide) W)
  have Hn := hidP (fun W => in14_r ⟨#[111]⟩ 110 false (by decide) (by decide) W)
  have He := hidP (fun W => in14_r ⟨#[111]⟩ 101 false (by decide) (by decide) W)
  have Ho := hidP (fun W => in14_r ⟨#[111]⟩ 111 true (by decide) (by decide) W)
  have Hd := hidP (fun W => in14_r ⟨#[111]⟩ 100 false (by decide) (by decide) W)
  by_cases hI : I ≠ 0
  · have pI : (I == 0) = false := by simpa using hI
    have qI : (I != 0) = true := by show (!(I == 0)) = true; rw [pI]; rfl
    rw [show (!(_ : Bool)) = false from by rw [qI]; rfl]
    go_enter Tryd.func14, Tryd.ntmps14
    go_wp2_with fail
    obtain ⟨b0, b1, b2, b3, b4, b5, b6, b7, b8, b9, b10, b11⟩ := box12z w 34 (.int .i64 K) (.int .i64 F) (.int .i64 T) (.int .i64 M) (.int .i64 I) (.int .i64 L) (.slice ea en ec) (.int .i64 C) (.bool O) (.slice da dn dc) (.slice ga gn gc) (.slice ha hn hc)
    have bB := alloc_below w (.cells #[.int .i64 K, .int .i64 F, .int .i64 T, .int .i64 M, .int .i64 I, .int .i64 L, .slice ea en ec, .int .i64 C, .bool O, .slice da dn dc, .slice ga gn gc, .slice ha hn hc] 34)
    have bL : w.heap.size < (w.alloc (.cells #[.int .i64 K, .int .i64 F, .int .i64 T, .int .i64 M, .int .i64 I, .int .i64 L, .slice ea en ec, .int .i64 C, .bool O, .slice da dn dc, .slice ga gn gc, .slice ha hn hc] 34)).heap.size := by simp
    generalize w.alloc (.cells #[.int .i64 K, .int .i64 F, .int .i64 T, .int .i64 M, .int .i64 I, .int .i64 L, .slice ea en ec, .int .i64 C, .bool O, .slice da dn dc, .slice ga gn gc, .slice ha hn hc] 34) = W1 at *
    refine (Hi.out _).mono ?_
    rintro e0 w0 ⟨rfl, rfl⟩
    go_wp2_with fail
    refine (Hn.out _).mono ?_
    rintro e0 w0 ⟨rfl, rfl⟩
    go_wp2_with fail
    go_ret
    exact ⟨rfl, bB⟩
  · have pI : (I == 0) = true := by simpa using hI
    have qI : (I != 0) = false := by show (!(I == 0)) = false; rw [pI]; rfl
    by_cases hL : L ≠ 0
    · have pL : (L == 0) = false := by simpa using hL
      have qL : (L != 0) = true := by show (!(L == 0)) = true; rw [pL]; rfl
      rw [show (!(_ : Bool)) = false from by rw [qI, qL]; rfl]
      go_enter Tryd.func14, Tryd.ntmps14
      go_wp2_with fail
      obtain ⟨b0, b1, b2, b3, b4, b5, b6, b7, b8, b9, b10, b11⟩ := box12z w 34 (.int .i64 K) (.int .i64 F) (.int .i64 T) (.int .i64 M) (.int .i64 I) (.int .i64 L) (.slice ea en ec) (.int .i64 C) (.bool O) (.slice da dn dc) (.slice ga gn gc) (.slice ha hn hc)
      have bB := alloc_below w (.cells #[.int .i64 K, .int .i64 F, .int .i64 T, .int .i64 M, .int .i64 I, .int .i64 L, .slice ea en ec, .int .i64 C, .bool O, .slice da dn dc, .slice ga gn gc, .slice ha hn hc] 34)
      have bL : w.heap.size < (w.alloc (.cells #[.int .i64 K, .int .i64 F, .int .i64 T, .int .i64 M, .int .i64 I, .int .i64 L, .slice ea en ec, .int .i64 C, .bool O, .slice da dn dc, .slice ga gn gc, .slice ha hn hc] 34)).heap.size := by simp
      generalize w.alloc (.cells #[.int .i64 K, .int .i64 F, .int .i64 T, .int .i64 M, .int .i64 I, .int .i64 L, .slice ea en ec, .int .i64 C, .bool O, .slice da dn dc, .slice ga gn gc, .slice ha hn hc] 34) = W1 at *
      refine (Hi.out _).mono ?_
      rintro e0 w0 ⟨rfl, rfl⟩
      go_wp2_with fail
      refine (Hn.out _).mono ?_
      rintro e0 w0 ⟨rfl, rfl⟩
      go_wp2_with fail
      go_ret
      exact ⟨rfl, bB⟩
    · have pL : (L == 0) = true := by simpa using hL
      have qL : (L != 0) = false := by show (!(L == 0)) = false; rw [pL]; rfl
      by_cases hen : 0 < (en : Int)
      · have pen : decide (0 < (en : Int)) = true := by simpa using hen
        have qen : decide ((en : Int) > 0) = true := pen
        rw [show (!(_ : Bool)) = false from by rw [qI, qL, pen]; rfl]
        go_enter Tryd.func14, Tryd.ntmps14
        go_wp2_with fail
        obtain ⟨b0, b1, b2, b3, b4, b5, b6, b7, b8, b9, b10, b11⟩ := box12z w 34 (.int .i64 K) (.int .i64 F) (.int .i64 T) (.int .i64 M) (.int .i64 I) (.int .i64 L) (.slice ea en ec) (.int .i64 C) (.bool O) (.slice da dn dc) (.slice ga gn gc) (.slice ha hn hc)
        have bB := alloc_below w (.cells #[.int .i64 K, .int .i64 F, .int .i64 T, .int .i64 M, .int .i64 I, .int .i64 L, .slice ea en ec, .int .i64 C, .bool O, .slice da dn dc, .slice ga gn gc, .slice ha hn hc] 34)
        have bL : w.heap.size < (w.alloc (.cells #[.int .i64 K, .int .i64 F, .int .i64 T, .int .i64 M, .int .i64 I, .int .i64 L, .slice ea en ec, .int .i64 C, .bool O, .slice da dn dc, .slice ga gn gc, .slice ha hn hc] 34)).heap.size := by simp
        generalize w.alloc (.cells #[.int .i64 K, .int .i64 F, .int .i64 T, .int .i64 M, .int .i64 I, .int .i64 L, .slice ea en ec, .int .i64 C, .bool O, .slice da dn dc, .slice ga gn gc, .slice ha hn hc] 34) = W1 at *
        refine (Hi.out _).mono ?_
        rintro e0 w0 ⟨rfl, rfl⟩
        go_wp2_with fail
        refine (Hn.out _).mono ?_
        rintro e0 w0 ⟨rfl, rfl⟩
        go_wp2_with fail
        refine (He.out _).mono ?_
        rintro e0 w0 ⟨rfl, rfl⟩
        go_wp2_with fail
        go_ret
        exact ⟨rfl, bB⟩
      · have pen : decide (0 < (en : Int)) = false := by simpa using hen
        have qen : decide ((en : Int) > 0) = false := pen
        by_cases hC : C ≠ 0
        · have pC : (C == 0) = false := by simpa using hC
          have qC : (C != 0) = true := by show (!(C == 0)) = true; rw [pC]; rfl
          rw [show (!(_ : Bool)) = false from by rw [qI, qL, pen, qC]; rfl]
          go_enter Tryd.func14, Tryd.ntmps14
          go_wp2_with fail
          obtain ⟨b0, b1, b2, b3, b4, b5, b6, b7, b8, b9, b10, b11⟩ := box12z w 34 (.int .i64 K) (.int .i64 F) (.int .i64 T) (.int .i64 M) (.int .i64 I) (.int .i64 L) (.slice ea en ec) (.int .i64 C) (.bool O) (.slice da dn dc) (.slice ga gn gc) (.slice ha hn hc)
          have bB := alloc_below w (.cells #[.int .i64 K, .int .i64 F, .int .i64 T, .int .i64 M, .int .i64 I, .int .i64 L, .slice ea en ec, .int .i64 C, .bool O, .slice da dn dc, .slice ga gn gc, .slice ha hn hc] 34)
          have bL : w.heap.size < (w.alloc (.cells #[.int .i64 K, .int .i64 F, .int .i64 T, .int .i64 M, .int .i64 I, .int .i64 L, .slice ea en ec, .int .i64 C, .bool O, .slice da dn dc, .slice ga gn gc, .slice ha hn hc] 34)).heap.size := by simp
          generalize w.alloc (.cells #[.int .i64 K, .int .i64 F, .int .i64 T, .int .i64 M, .int .i64 I, .int .i64 L, .slice ea en ec, .int .i64 C, .bool O, .slice da dn dc, .slice ga gn gc, .slice ha hn hc] 34) = W1 at *
          refine (Hi.out _).mono ?_
          rintro e0 w0 ⟨rfl, rfl⟩
          go_wp2_with fail
          refine (Hn.out _).mono ?_
          rintro e0 w0 ⟨rfl, rfl⟩
          go_wp2_with fail
          refine (He.out _).mono ?_
          rintro e0 w0 ⟨rfl, rfl⟩
          go_wp2_with fail
          go_ret
          exact ⟨rfl, bB⟩
        · have pC : (C == 0) = true := by simpa using hC
          have qC : (C != 0) = false := by show (!(C == 0)) = false; rw [pC]; rfl
          by_cases hdn : 0 < (dn : Int)
          · have pdn : decide (0 < (dn : Int)) = true := by simpa using hdn
            have qdn : decide ((dn : Int) > 0) = true := pdn
            rw [show (!(_ : Bool)) = false from by rw [qI, qL, pen, qC, pdn]; rfl]
            go_enter Tryd.func14, Tryd.ntmps14
            go_wp2_with fail
            obtain ⟨b0, b1, b2, b3, b4, b5, b6, b7, b8, b9, b10, b11⟩ := box12z w 34 (.int .i64 K) (.int .i64 F) (.int .i64 T) (.int .i64 M) (.int .i64 I) (.int .i64 L) (.slice ea en ec) (.int .i64 C) (.bool O) (.slice da dn dc) (.slice ga gn gc) (.slice ha hn hc)
            have bB := alloc_below w (.cells #[.int .i64 K, .int .i64 F, .int .i64 T, .int .i64 M, .int .i64 I, .int .i64 L, .slice ea en ec, .int .i64 C, .bool O, .slice da dn dc, .slice ga gn gc, .slice ha hn hc] 34)
            have bL : w.heap.size < (w.alloc (.cells #[.int .i64 K, .int .i64 F, .int .i64 T, .int .i64 M, .int .i64 I, .int .i64 L, .slice ea en ec, .int .i64 C, .bool O, .slice da dn dc, .slice ga gn gc, .slice ha hn hc] 34)).heap.size := by simp
            generalize w.alloc (.cells #[.int .i64 K, .int .i64 F, .int .i64 T, .int .i64 M, .int .i64 I, .int .i64 L, .slice ea en ec, .int .i64 C, .bool O, .slice da dn dc, .slice ga gn gc, .slice ha hn hc] 34) = W1 at *
            refine (Hi.out _).mono ?_
            rintro e0 w0 ⟨rfl, rfl⟩
            go_wp2_with fail
            refine (Hn.out _).mono ?_
            rintro e0 w0 ⟨rfl, rfl⟩
            go_wp2_with fail
            refine (He.out _).mono ?_
            rintro e0 w0 ⟨rfl, rfl⟩
            go_wp2_with fail
            refine (Ho.out _).mono ?_
            rintro e0 w0 ⟨rfl, rfl⟩
            go_wp2_with fail
            refine (Hd.out _).mono ?_
            rintro e0 w0 ⟨rfl, rfl⟩
            go_wp2_with fail
            go_ret
            exact ⟨rfl, bB⟩
          · have pdn : decide (0 < (dn : Int)) = false := by simpa using hdn
            have qdn : decide ((dn : Int) > 0) = false := pdn
            by_cases hgn : 0 < (gn : Int)
            · have pgn : decide (0 < (gn : Int)) = true := by simpa using hgn
              have qgn : decide ((gn : Int) > 0) = true := pgn
              rw [show (!(_ : Bool)) = false from by rw [qI, qL, pen, qC, pdn, pgn]; rfl]
              go_enter Tryd.func14, Tryd.ntmps14
              go_wp2_with fail
              obtain ⟨b0, b1, b2, b3, b4, b5, b6, b7, b8, b9, b10, b11⟩ := box12z w 34 (.int .i64 K) (.int .i64 F) (.int .i64 T) (.int .i64 M) (.int .i64 I) (.int .i64 L) (.slice ea en ec) (.int .i64 C) (.bool O) (.slice da dn dc) (.slice ga gn gc) (.slice ha hn hc)
              have bB := alloc_below w (.cells #[.int .i64 K, .int .i64 F, .int .i64 T, .int .i64 M, .int .i64 I, .int .i64 L, .slice ea en ec, .int .i64 C, .bool O, .slice da dn dc, .slice ga gn gc, .slice ha hn hc] 34)
              have bL : w.heap.size < (w.alloc (.cells #[.int .i64 K, .int .i64 F, .int .i64 T, .int .i64 M, .int .i64 I, .int .i64 L, .slice ea en ec, .int .i64 C, .bool O, .slice da dn dc, .slice ga gn gc, .slice ha hn hc] 34)).heap.size := by simp
              generalize w.alloc (.cells #[.int .i64 K, .int .i64 F, .int .i64 T, .int .i64 M, .int .i64 I, .int .i64 L, .slice ea en ec, .int .i64 C, .bool O, .slice da dn dc, .slice ga gn gc, .slice ha hn hc] 34) = W1 at *
              refine (Hi.out _).mono ?_
              rintro e0 w0 ⟨rfl, rfl⟩
              go_wp2_with fail
              refine (Hn.out _).mono ?_
              rintro e0 w0 ⟨rfl, rfl⟩
              go_wp2_with fail
              refine (He.out _).mono ?_
              rintro e0 w0 ⟨rfl, rfl⟩
              go_wp2_with fail
              refine (Ho.out _).mono ?_
              rintro e0 w0 ⟨rfl, rfl⟩
              go_wp2_with fail
              refine (Hd.out _).mono ?_
              rintro e0 w0 ⟨rfl, rfl⟩
              go_wp2_with fail
              go_ret
              exact ⟨rfl, bB⟩
            · have pgn : decide (0 < (gn : Int)) = false := by simpa using hgn
              have qgn : decide ((gn : Int) > 0) = false := pgn
              by_cases hhn : 0 < (hn : Int)
              · have phn : decide (0 < (hn : Int)) = true := by simpa using hhn
                have qhn : decide ((hn : Int) > 0) = true := phn
                rw [show (!(_ : Bool)) = false from by rw [qI, qL, pen, qC, pdn, pgn, phn]; rfl]
                go_enter Tryd.func14, Tryd.ntmps14
                go_wp2_with fail
                obtain ⟨b0, b1, b2, b3, b4, b5, b6, b7, b8, b9, b10, b11⟩ := box12z w 34 (.int .i64 K) (.int .i64 F) (.int .i64 T) (.int .i64 M) (.int .i64 I) (.int .i64 L) (.slice ea en ec) (.int .i64 C) (.bool O) (.slice da dn dc) (.slice ga gn gc) (.slice ha hn hc)
                have bB := alloc_below w (.cells #[.int .i64 K, .int .i64 F, .int .i64 T, .int .i64 M, .int .i64 I, .int .i64 L, .slice ea en ec, .int .i64 C, .bool O, .slice da dn dc, .slice ga gn gc, .slice ha hn hc] 34)
                have bL : w.heap.size < (w.alloc (.cells #[.int .i64 K, .int .i64 F, .int .i64 T, .int .i64 M, .int .i64 I, .int .i64 L, .slice ea en ec, .int .i64 C, .bool O, .slice da dn dc, .slice ga gn gc, .slice ha hn hc] 34)).heap.size := by simp
                generalize w.alloc (.cells #[.int .i64 K, .int .i64 F, .int .i64 T, .int .i64 M, .int .i64 I, .int .i64 L, .slice ea en ec, .int .i64 C, .bool O, .slice da dn dc, .slice ga gn gc, .slice ha hn hc] 34) = W1 at *
                refine (Hi.out _).mono ?_
                rintro e0 w0 ⟨rfl, rfl⟩
                go_wp2_with fail
                refine (Hn.out _).mono ?_
                rintro e0 w0 ⟨rfl, rfl⟩
                go_wp2_with fail
                refine (He.out _).mono ?_
                rintro e0 w0 ⟨rfl, rfl⟩
                go_wp2_with fail
                refine (Ho.out _).mono ?_
                rintro e0 w0 ⟨rfl, rfl⟩
                go_wp2_with fail
                refine (Hd.out _).mono ?_
                rintro e0 w0 ⟨rfl, rfl⟩
                go_wp2_with fail
                go_ret
                exact ⟨rfl, bB⟩
              · have phn : decide (0 < (hn : Int)) = false := by simpa using hhn
                have qhn : decide ((hn : Int) > 0) = false := phn
                rw [show (!(_ : Bool)) = true from by rw [qI, qL, pen, qC, pdn, pgn, phn]; rfl]
                go_enter Tryd.func14, Tryd.ntmps14
                go_wp2_with fail
                obtain ⟨b0, b1, b2, b3, b4, b5, b6, b7, b8, b9, b10, b11⟩ := box12z w 34 (.int .i64 K) (.int .i64 F) (.int .i64 T) (.int .i64 M) (.int .i64 I) (.int .i64 L) (.slice ea en ec) (.int .i64 C) (.bool O) (.slice da dn dc) (.slice ga gn gc) (.slice ha hn hc)
                have bB := alloc_below w (.cells #[.int .i64 K, .int .i64 F, .int .i64 T, .int .i64 M, .int .i64 I, .int .i64 L, .slice ea en ec, .int .i64 C, .bool O, .slice da dn dc, .slice ga gn gc, .slice ha hn hc] 34)
                have bL : w.heap.size < (w.alloc (.cells #[.int .i64 K, .int .i64 F, .int .i64 T, .int .i64 M, .int .i64 I, .int .i64 L, .slice ea en ec, .int .i64 C, .bool O, .slice da dn dc, .slice ga gn gc, .slice ha hn hc] 34)).heap.size := by simp
                generalize w.alloc (.cells #[.int .i64 K, .int .i64 F, .int .i64 T, .int .i64 M, .int .i64 I, .int .i64 L, .slice ea en ec, .int .i64 C, .bool O, .slice da dn dc, .slice ga gn gc, .slice ha hn hc] 34) = W1 at *
                refine (Hi.out _).mono ?_
                rintro e0 w0 ⟨rfl, rfl⟩
                go_wp2_with fail
                refine (Hn.out _).mono ?_
                rintro e0 w0 ⟨rfl, rfl⟩
                go_wp2_with fail
                refine (He.out _).mono ?_
                rintro e0 w0 ⟨rfl, rfl⟩
                go_wp2_with fail
                refine (Ho.out _).mono ?_
                rintro e0 w0 ⟨rfl, rfl⟩
                go_wp2_with fail
                refine (Hd.out _).mono ?_
                rintro e0 w0 ⟨rfl, rfl⟩
                go_wp2_with fail
                go_ret
                exact ⟨rfl, bB⟩

set_option maxRecDepth 10000 in
set_option maxHeartbeats 8000000 in
theorem lz_3 (m : Mg) (w : World) :
    Calls Tryd.prog 14 #[m.v, .string ⟨#[105, 101]⟩] w fun e w' => e = .returned (.bool (zB true false true false false m)) ∧ Below w.heap.size w w' := by
  obtain ⟨K, F, T, M, I, L, ea, en, ec, C, O, da, dn, dc, ga, gn, gc, ha, hn, hc, es, ds, ps, bs⟩ := m
  unfold zB
  simp only
  have Hi := hidP (fun W => in14_r ⟨#[105, 101]⟩ 105 true (by decide) (by decide) W)
  have Hn := hidP (fun W => in14_r ⟨#[105, 101]⟩ 110 false (by decide) (by decide) W)
  have He := hidP (fun W => in14_r ⟨#[105, 101]⟩ 101 true (by decide) (by decide) W)
  have Ho := hidP (fun W => in14_r ⟨#[105, 101]⟩ 111 false (by decide) (by decide) W)
  have Hd := hidP (fun W => in14_r ⟨#[105, 101]⟩ 100 false (by decide) (by decide) W)
  cases hO : O
  case' true =>
    rw [show (!(_ : Bool)) = false from by rfl]
    subst hO
    go_enter Tryd.func14, Tryd.ntmps14
    go_wp2_with fail
    obtain ⟨b0, b1, b2, b3, b4, b5, b6, b7, b8, b9, b10, b11⟩ := box12z w 34 (.int .i64 K) (.int .i64 F) (.int .i64 T) (.int .i64 M) (.int .i64 I) (.int .i64 L) (.slice ea en ec) (.int .i64 C) (.bool true) (.slice da dn dc) (.slice ga gn gc) (.slice ha hn hc)
    have bB := alloc_below w (.cells #[.int .i64 K, .int .i64 F, .int .i64 T, .int .i64 M, .int .i64 I, .int .i64 L, .slice ea en ec, .int .i64 C, .bool true, .slice da dn dc, .slice ga gn gc, .slice ha hn hc] 34)
    have bL : w.heap.size < (w.alloc (.cells #[.int .i64 K, .int .i64 F, .int .i64 T, .int .i64 M, .int .i64 I, .int .i64 L, .slice ea en ec, .int .i64 C, .bool true, .slice da dn dc, .slice ga gn gc, .slice ha hn hc] 34)).heap.size := by simp
    generalize w.alloc (.cells #[.int .i64 K, .int .i64 F, .int .i64 T, .int .i64 M, .int .i64 I, .int .i64 L, .slice ea en ec, .int .i64 C, .bool true, .slice da dn dc, .slice ga gn gc, .slice ha hn hc] 34) = W1 at *
    refine (Hi.out _).mono ?_
    rintro e0 w0 ⟨rfl, rfl⟩
    go_wp2_with fail
    refine (He.out _).mono ?_
    rintro e0 w0 ⟨rfl, rfl⟩
    go_wp2_with fail
    refine (Ho.out _).mono ?_
    rintro e0 w0 ⟨rfl, rfl⟩
    go_wp2_with fail
    go_ret
    exact ⟨rfl, bB⟩
  case' false =>
    by_cases hdn : 0 < (dn : Int)
    · have pdn : decide (0 < (dn : Int)) = true := by simpa using hdn
      have qdn : decide ((dn : Int) > 0) = true := pdn
      rw [show (!(_ : Bool)) = false from by rw [pdn]; rfl]
      subst hO
      go_enter Tryd.func14, Tryd.ntmps14
      go_wp2_with fail
      obtain ⟨b0, b1, b2, b3, b4, b5, b6, b7, b8, b9, b10, b11⟩ := box12z w 34 (.int .i64 K) (.int .i64 F) (.int .i64 T) (.int .i64 M) (.int .i64 I) (.int .i64 L) (.slice ea en ec) (.int .i64 C) (.bool false) (.slice da dn dc) (.slice ga gn gc) (.slice ha hn hc)
      have bB := alloc_below w (.cells #[.int .i64 K, .int .i64 F, .int .i64 T, .int .i64 M, .int .i64 I, .int .i64 L, .slice ea en ec, .int .i64 C, .bool false, .slice da dn dc, .slice ga gn gc, .slice ha hn hc] 34)
      have bL : w.heap.size < (w.alloc (.cells #[.int .i64 K, .int .i64 F, .int .i64 T, .int .i64 M, .int .i64 I, .int .i64 L, .slice ea en ec, .int .i64 C, .bool false, .slice da dn dc, .slice ga gn gc, .slice ha hn hc] 34)).heap.size := by simp
      generalize w.alloc (.cells #[.int .i64 K, .int .i64 F, .int .i64 T, .int .i64 M, .int .i64 I, .int .i64 L, .slice ea en ec, .int .i64 C, .bool false, .slice da dn dc, .slice ga gn gc, .slice ha hn hc] 34) = W1 at *
      refine (Hi.out _).mono ?_
      rintro e0 w0 ⟨rfl, rfl⟩
      go_wp2_with fail
      refine (He.out _).mono ?_
      rintro e0 w0 ⟨rfl, rfl⟩
      go_wp2_with fail
      refine (Ho.out _).mono ?_
      rintro e0 w0 ⟨rfl, rfl⟩
      go_wp2_with fail
      refine (Hd.out _).mono ?_
      rintro e0 w0 ⟨rfl, rfl⟩
      go_wp2_with fail
      go_ret
      exact ⟨rfl, bB⟩
    · have pdn : decide (0 < (dn : Int)) = false := by simpa using hdn
      have qdn : decide ((dn : Int) > 0) = false := pdn
      by_cases hgn : 0 < (gn : Int)
      · have pgn : decide (0 < (gn : Int)) = true := by simpa using hgn
        have qgn : decide ((gn : Int) > 0) = true := pgn
        rw [show (!(_ : Bool)) = false from by rw [pdn, pgn]; rfl]
        subst hO
        go_enter Tryd.func14, Tryd.ntmps14
        go_wp2_with fail
        obtain ⟨b0, b1, b2, b3, b4, b5, b6, b7, b8, b9, b10, b11⟩ := box12z w 34 (.int .i64 K) (.int .i64 F) (.int .i64 T) (.int .i64 M) (.int .i64 I) (.int .i64 L) (.slice ea en ec) (.int .i64 C) (.bool false) (.slice da dn dc) (.slice ga gn gc) (.slice ha hn hc)
        have bB := alloc_below w (.cells #[.int .i64 K, .int .i64 F, .int .i64 T, .int .i64 M, .int .i64 I, .int .i64 L, .slice ea en ec, .int .i64 C, .bool false, .slice da dn dc, .slice ga gn gc, .slice ha hn hc] 34)
        have bL : w.heap.size < (w.alloc (.cells #[.int .i64 K, .int .i64 F, .int .i64 T, .int .i64 M, .int .i64 I, .int .i64 L, .slice ea en ec, .int .i64 C, .bool false, .slice da dn dc, .slice ga gn gc, .slice ha hn hc] 34)).heap.size := by simp
        generalize w.alloc (.cells #[.int .i64 K, .int .i64 F, .int .i64 T, .int .i64 M, .int .i64 I, .int .i64 L, .slice ea en ec, .int .i64 C, .bool false, .slice da dn dc, .slice ga gn gc, .slice ha hn hc] 34) = W1 at *
        refine (Hi.out _).mono ?_
        rintro e0 w0 ⟨rfl, rfl⟩
        go_wp2_with fail
        refine (He.out _).mono ?_
        rintro e0 w0 ⟨rfl, rfl⟩
        go_wp2_with fail
        refine (Ho.out _).mono ?_
        rintro e0 w0 ⟨rfl, rfl⟩
        go_wp2_with fail
        refine (Hd.out _).mono ?_
        rintro e0 w0 ⟨rfl, rfl⟩
        go_wp2_with fail
        go_ret
        exact ⟨rfl, bB⟩
      · have pgn : decide (0 < (gn : Int)) = false := by simpa using hgn
        have qgn : decide ((gn : Int) > 0) = false := pgn
        by_cases hhn : 0 < (hn : Int)
        · have phn : decide (0 < (hn : Int)) = true := by simpa using hhn
          have qhn : decide ((hn : Int) > 0) = true := phn
          rw [show (!(_ : Bool)) = false from by rw [pdn, pgn, phn]; rfl]
          subst hO
          go_enter Tryd.func14, Tryd.ntmps14
          go_wp2_with fail
          obtain ⟨b0, b1, b2, b3, b4, b5, b6, b7, b8, b9, b10, b11⟩ := box12z w 34 (.int .i64 K) (.int .i64 F) (.int .i64 T) (.int .i64 M) (.int .i64 I) (.int .i64 L) (.slice ea en ec) (.int .i64 C) (.bool false) (.slice da dn dc) (.slice ga gn gc) (.slice ha hn hc)
          have bB := alloc_below w (.cells #[.int .i64 K, .int .i64 F, .int .i64 T, .int .i64 M, .int .i64 I, .int .i64 L, .slice ea en ec, .int .i64 C, .bool false, .slice da dn dc, .slice ga gn gc, .slice ha hn hc] 34)
          have bL : w.heap.size < (w.alloc (.cells #[.int .i64 K, .int .i64 F, .int .i64 T, .int .i64 M, .int .i64 I, .int .i64 L, .slice ea en ec, .int .i64 C, .bool false, .slice da dn dc, .slice ga gn gc, .slice ha hn hc] 34)).heap.size := by simp
          generalize w.alloc (.cells #[.int .i64 K, .int .i64 F, .int .i64 T, .int .i64 M, .int .i64 I, .int .i64 L, .slice ea en ec, .int .i64 C, .bool false, .slice da dn dc, .slice ga gn gc, .slice ha hn hc] 34) = W1 at *
          refine (Hi.out _).mono ?_
          rintro e0 w0 ⟨rfl, rfl⟩
          go_wp2_with fail
          refine (He.out _).mono ?_
          rintro e0 w0 ⟨rfl, rfl⟩
          go_wp2_with fail
          refine (Ho.out _).mono ?_
          rintro e0 w0 ⟨rfl, rfl⟩
          go_wp2_with fail
          refine (Hd.out _).mono ?_
          rintro e0 w0 ⟨rfl, rfl⟩
          go_wp2_with fail
          go_ret
          exact ⟨rfl, bB⟩
        · have phn : decide (0 < (hn : Int)) = false := by simpa using hhn
          have qhn : decide ((hn : Int) > 0) = false := phn
          rw [show (!(_ : Bool)) = true from by rw [pdn, pgn, phn]; rfl]
          subst hO
          go_enter Tryd.func14, Tryd.ntmps14
          go_wp2_with fail
          obtain ⟨b0, b1, b2, b3, b4, b5, b6, b7, b8, b9, b10, b11⟩ := box12z w 34 (.int .i64 K) (.int .i64 F) (.int .i64 T) (.int .i64 M) (.int .i64 I) (.int .i64 L) (.slice ea en ec) (.int .i64 C) (.bool false) (.slice da dn dc) (.slice ga gn gc) (.slice ha hn hc)
          have bB := alloc_below w (.cells #[.int .i64 K, .int .i64 F, .int .i64 T, .int .i64 M, .int .i64 I, .int .i64 L, .slice ea en ec, .int .i64 C, .bool false, .slice da dn dc, .slice ga gn gc, .slice ha hn hc] 34)
          have bL : w.heap.size < (w.alloc (.cells #[.int .i64 K, .int .i64 F, .int .i64 T, .int .i64 M, .int .i64 I, .int .i64 L, .slice ea en ec, .int .i64 C, .bool false, .slice da dn dc, .slice ga gn gc, .slice ha hn hc] 34)).heap.size := by simp
          generalize w.alloc (.cells #[.int .i64 K, .int .i64 F, .int .i64 T, .int .i64 M, .int .i64 I, .int .i64 L, .slice ea en ec, .int .i64 C, .bool false, .slice da dn dc, .slice ga gn gc, .slice ha hn hc] 34) = W1 at *
          refine (Hi.out _).mono ?_
          rintro e0 w0 ⟨rfl, rfl⟩
          go_wp2_with fail
          refine (He.out _).mono ?_
          rintro e0 w0 ⟨rfl, rfl⟩
          go_wp2_with fail
          refine (Ho.out _).mono ?_
          rintro e0 w0 ⟨rfl, rfl⟩
          go_wp2_with fail
          refine (Hd.out _).mono ?_
          rintro e0 w0 ⟨rfl, rfl⟩
          go_wp2_with fail
          go_ret
          exact ⟨rfl, bB⟩

set_option maxRecDepth 10000 in
set_option maxHeartbeats 8000000 in
theorem lz_4 (m : Mg) (w : World) :
    Calls Tryd.prog 14 #[m.v, .string ⟨#[111, 110]⟩] w fun e w' => e = .returned (.bool (zB false true false true false m)) ∧ Below w.heap.size w w' := by
  obtain ⟨K, F, T, M, I, L, ea, en, ec, C, O, da, dn, dc, ga, gn, gc, ha, hn, hc, es, ds, ps, bs⟩ := m
  unfold zB
  simp only
  have Hi := hidP (fun W => in14_r ⟨#[111, 110]⟩ 105 false (by decide) (by decide) W)
  have Hn := hidP (fun W => in14_r ⟨#[111, 110]⟩ 110 true (by decide) (by decide) W)
  have He := hidP (fun W => in14_r ⟨#[111, 110]⟩ 101 false (by decide) (by decide) W)
  have Ho := hidP (fun W => in14_r ⟨#[111, 110]⟩ 111 true (by decide) (by decide) W)
  have Hd := hidP (fun W => in14_r ⟨#[111, 110]⟩ 100 false (by decide) (by decide) W)
  by_cases hL : L ≠ 0
  · have pL : (L == 0) = false := by simpa using hL
    have qL : (L != 0) = true := by show (!(L == 0)) = true; rw [pL]; rfl
    rw [show (!(_ : Bool)) = false from by rw [qL]; rfl]
    go_enter Tryd.func14, Tryd.ntmps14
    go_wp2_with fail
    obtain ⟨b0, b1, b2, b3, b4, b5, b6, b7, b8, b9, b10, b11⟩ := box12z w 34 (.int .i64 K) (.int .i64 F) (.int .i64 T) (.int .i64 M) (.int .i64 I) (.int .i64 L) (.slice ea en ec) (.int .i64 C) (.bool O) (.slice da dn dc) (.slice ga gn gc) (.slice ha hn hc)
    have bB := alloc_below w (.cells #[.int .i64 K, .int .i64 F, .int .i64 T, .int .i64 M, .int .i64 I, .int .i64 L, .slice ea en ec, .int .i64 C, .bool O, .slice da dn dc, .slice ga gn gc, .slice ha hn hc] 34)
    have bL : w.heap.size < (w.alloc (.cells #[.int .i64 K, .int .i64 F, .int .i64 T, .int .i64 M, .int .i64 I, .int .i64 L, .slice ea en ec, .int .i64 C, .bool O, .slice da dn dc, .slice ga gn gc, .slice ha hn hc] 34)).heap.size := by simp
    generalize w.alloc (.cells #[.int .i64 K, .int .i64 F, .int .i64 T, .int .i64 M, .int .i64 I, .int .i64 L, .slice ea en ec, .int .i64 C, .bool O, .slice da dn dc, .slice ga gn gc, .slice ha hn hc] 34) = W1 at *
    refine (Hi.out _).mono ?_
    rintro e0 w0 ⟨rfl, rfl⟩
    go_wp2_with fail
    refine (Hn.out _).mono ?_
    rintro e0 w0 ⟨rfl, rfl⟩
    go_wp2_with fail
    go_ret
    exact ⟨rfl, bB⟩
  · have pL : (L == 0) = true := by simpa using hL
    have qL : (L != 0) = false := by show (!(L == 0)) = false; rw [pL]; rfl
    by_cases hen : 0 < (en : Int)
    · have pen : decide (0 < (en : Int)) = true := by simpa using hen
      have qen : decide ((en : Int) > 0) = true := pen
      rw [show (!(_ : Bool)) = false from by rw [qL, pen]; rfl]
      go_enter Tryd.func14, Tryd.ntmps14
      go_wp2_with fail
      obtain ⟨b0, b1, b2, b3, b4, b5, b6, b7, b8, b9, b10, b11⟩ := box12z w 34 (.int .i64 K) (.int .i64 F) (.int .i64 T) (.int .i64 M) (.int .i64 I) (.int .i64 L) (.slice ea en ec) (.int .i64 C) (.bool O) (.slice da dn dc) (.slice ga gn gc) (.slice ha hn hc)
      have bB := alloc_below w (.cells #[.int .i64 K, .int .i64 F, .int .i64 T, .int .i64 M, .int .i64 I, .int .i64 L, .slice ea en ec, .int .i64 C, .bool O, .slice da dn dc, .slice ga gn gc, .slice ha hn hc] 34)
      have bL : w.heap.size < (w.alloc (.cells #[.int .i64 K, .int .i64 F, .int .i64 T, .int .i64 M, .int .i64 I, .int .i64 L, .slice ea en ec, .int .i64 C, .bool O, .slice da dn dc, .slice ga gn gc, .slice ha hn hc] 34)).heap.size := by simp
      generalize w.alloc (.cells #[.int .i64 K, .int .i64 F, .int .i64 T, .int .i64 M, .int .i64 I, .int .i64 L, .slice ea en ec, .int .i64 C, .bool O, .slice da dn dc, .slice ga gn gc, .slice ha hn hc] 34) = W1 at *
      refine (Hi.out _).mono ?_
      rintro e0 w0 ⟨rfl, rfl⟩
      go_wp2_with fail
      refine (Hn.out _).mono ?_
      rintro e0 w0 ⟨rfl, rfl⟩
      go_wp2_with fail
      refine (He.out _).mono ?_
      rintro e0 w0 ⟨rfl, rfl⟩
      go_wp2_with fail
      go_ret
      exact ⟨rfl, bB⟩
    · have pen : decide (0 < (en : Int)) = false := by simpa using hen
      have qen : decide ((en : Int) > 0) = false := pen
      by_cases hC : C ≠ 0
      · have pC : (C == 0) = false := by simpa using hC
        have qC : (C != 0) = true := by show (!(C == 0)) = true; rw [pC]; rfl
        rw [show (!(_ : Bool)) = false from by rw [qL, pen, qC]; rfl]
        go_enter Tryd.func14, Tryd.ntmps14
        go_wp2_with fail
        obtain ⟨b0, b1, b2, b3, b4, b5, b6, b7, b8, b9, b10, b11⟩ := box12z w 34 (.int .i64 K) (.int .i64 F) (.int .i64 T) (.int .i64 M) (.int .i64 I) (.int .i64 L) (.slice ea en ec) (.int .i64 C) (.bool O) (.slice da dn dc) (.slice ga gn gc) (.slice ha hn hc)
        have bB := alloc_below w (.cells #[.int .i64 K, .int .i64 F, .int .i64 T, .int .i64 M, .int .i64 I, .int .i64 L, .slice ea en ec, .int .i64 C, .bool O, .slice da dn dc, .slice ga gn gc, .slice ha hn hc] 34)
        have bL : w.heap.size < (w.alloc (.cells #[.int .i64 K, .int .i64 F, .int .i64 T, .int .i64 M, .int .i64 I, .int .i64 L, .slice ea en ec, .int .i64 C, .bool O, .slice da dn dc, .slice ga gn gc, .slice ha hn hc] 34)).heap.size := by simp
        generalize w.alloc (.cells #[.int .i64 K, .int .i64 F, .int .i64 T, .int .i64 M, .int .i64 I, .int .i64 L, .slice ea en ec, .int .i64 C, .bool O, .slice da dn dc, .slice ga gn gc, .slice ha hn hc] 34) = W1 at *
        refine (Hi.out _).mono ?_
        rintro e0 w0 ⟨rfl, rfl⟩
        go_wp2_with fail
        refine (Hn.out _).mono ?_
        rintro e0 w0 ⟨rfl, rfl⟩
        go_wp2_with fail
        refine (He.out _).mono ?_
        rintro e0 w0 ⟨rfl, rfl⟩
        go_wp2_with fail
        go_ret
        exact ⟨rfl, bB⟩
      · have pC : (C == 0) = true := by simpa using hC
        have qC : (C != 0) = false := by show (!(C == 0)) = false; rw [pC]; rfl
        by_cases hdn : 0 < (dn : Int)
        · have pdn : decide (0 < (dn : Int)) = true := by simpa using hdn
          have qdn : decide ((dn : Int) > 0) = true := pdn
          rw [show (!(_ : Bool)) = false from by rw [qL, pen, qC, pdn]; rfl]
          go_enter Tryd.func14, Tryd.ntmps14
          go_wp2_with fail
          obtain ⟨b0, b1, b2, b3, b4, b5, b6, b7, b8, b9, b10, b11⟩ := box12z w 34 (.int .i64 K) (.int .i64 F) (.int .i64 T) (.int .i64 M) (.int .i64 I) (.int .i64 L) (.slice ea en ec) (.int .i64 C) (.bool O) (.slice da dn dc) (.slice ga gn gc) (.slice ha hn hc)
          have bB := alloc_below w (.cells #[.int .i64 K, .int .i64 F, .int .i64 T, .int .i64 M, .int .i64 I, .int .i64 L, .slice ea en ec, .int .i64 C, .bool O, .slice da dn dc, .slice ga gn gc, .slice ha hn hc] 34)
          have bL : w.heap.size < (w.alloc (.cells #[.int .i64 K, .int .i64 F, .int .i64 T, .int .i64 M, .int .i64 I, .int .i64 L, .slice ea en ec, .int .i64 C, .bool O, .slice da dn dc, .slice ga gn gc, .slice ha hn hc] 34)).heap.size := by simp
          generalize w.alloc (.cells #[.int .i64 K, .int .i64 F, .int .i64 T, .int .i64 M, .int .i64 I, .int .i64 L, .slice ea en ec, .int .i64 C, .bool O, .slice da dn dc, .slice ga gn gc, .slice ha hn hc] 34) = W1 at *
          refine (Hi.out _).mono ?_
          rintro e0 w0 ⟨rfl, rfl⟩
          go_wp2_with fail
          refine (Hn.out _).mono ?_
          rintro e0 w0 ⟨rfl, rfl⟩
          go_wp2_with fail
          refine (He.out _).mono ?_
          rintro e0 w0 ⟨rfl, rfl⟩
          go_wp2_with fail
          refine (Ho.out _).mono ?_
          rintro e0 w0 ⟨rfl, rfl⟩
          go_wp2_with fail
          refine (Hd.out _).mono ?_
          rintro e0 w0 ⟨rfl, rfl⟩
          go_wp2_with fail
          go_ret
          exact ⟨rfl, bB⟩
        · have pdn : decide (0 < (dn : Int)) = false := by simpa using hdn
          have qdn : decide ((dn : Int) > 0) = false := pdn
          by_cases hgn : 0 < (gn : Int)
          · have pgn : decide (0 < (gn : Int)) = true := by simpa using hgn
            have qgn : decide ((gn : Int) > 0) = true := pgn
            rw [show (!(_ : Bool)) = false from by rw [qL, pen, qC, pdn, pgn]; rfl]
            go_enter Tryd.func14, Tryd.ntmps14
            go_wp2_with fail
            obtain ⟨b0, b1, b2, b3, b4, b5, b6, b7, b8, b9, b10, b11⟩ := box12z w 34 (.int .i64 K) (.int .i64 F) (.int .i64 T) (.int .i64 M) (.int .i64 I) (.int .i64 L) (.slice ea en ec) (.int .i64 C) (.bool O) (.slice da dn dc) (.slice ga gn gc) (.slice ha hn hc)
            have bB := alloc_below w (.cells #[.int .i64 K, .int .i64 F, .int .i64 T, .int .i64 M, .int .i64 I, .int .i64 L, .slice ea en ec, .int .i64 C, .bool O, .slice da dn dc, .slice ga gn gc, .slice ha hn hc] 34)
            have bL : w.heap.size < (w.alloc (.cells #[.int .i64 K, .int .i64 F, .int .i64 T, .int .i64 M, .int .i64 I, .int .i64 L, .slice ea en ec, .int .i64 C, .bool O, .slice da dn dc, .slice ga gn gc, .slice ha hn hc] 34)).heap.size := by simp
            generalize w.alloc (.cells #[.int .i64 K, .int .i64 F, .int .i64 T, .int .i64 M, .int .i64 I, .int .i64 L, .slice ea en ec, .int .i64 C, .bool O, .slice da dn dc, .slice ga gn gc, .slice ha hn hc] 34) = W1 at *
            refine (Hi.out _).mono ?_
            rintro e0 w0 ⟨rfl, rfl⟩
            go_wp2_with fail
            refine (Hn.out _).mono ?_
            rintro e0 w0 ⟨rfl, rfl⟩
            go_wp2_with fail
            refine (He.out _).mono ?_
            rintro e0 w0 ⟨rfl, rfl⟩
            go_wp2_with fail
            refine (Ho.out _).mono ?_
            rintro e0 w0 ⟨rfl, rfl⟩
            go_wp2_with fail
            refine (Hd.out _).mono ?_
            rintro e0 w0 ⟨rfl, rfl⟩
            go_wp2_with fail
            go_ret
            exact ⟨rfl, bB⟩
          · have pgn : decide (0 < (gn : Int)) = false := by simpa using hgn
            have qgn : decide ((gn : Int) > 0) = false := pgn
            by_cases hhn : 0 < (hn : Int)
            · have phn : decide (0 < (hn : Int)) = true := by simpa using hhn
              have qhn : decide ((hn : Int) > 0) = true := phn
              rw [show (!(_ : Bool)) = false from by rw [qL, pen, qC, pdn, pgn, phn]; rfl]
              go_enter Tryd.func14, Tryd.ntmps14
              go_wp2_with fail
              obtain ⟨b0, b1, b2, b3, b4, b5, b6, b7, b8, b9, b10, b11⟩ := box12z w 34 (.int .i64 K) (.int .i64 F) (.int .i64 T) (.int .i64 M) (.int .i64 I) (.int .i64 L) (.slice ea en ec) (.int .i64 C) (.bool O) (.slice da dn dc) (.slice ga gn gc) (.slice ha hn hc)
              have bB := alloc_below w (.cells #[.int .i64 K, .int .i64 F, .int .i64 T, .int .i64 M, .int .i64 I, .int .i64 L, .slice ea en ec, .int .i64 C, .bool O, .slice da dn dc, .slice ga gn gc, .slice ha hn hc] 34)
              have bL : w.heap.size < (w.alloc (.cells #[.int .i64 K, .int .i64 F, .int .i64 T, .int .i64 M, .int .i64 I, .int .i64 L, .slice ea en ec, .int .i64 C, .bool O, .slice da dn dc, .slice ga gn gc, .slice ha hn hc] 34)).heap.size := by simp
              generalize w.alloc (.cells #[.int .i64 K, .int .i64 F, .int .i64 T, .int .i64 M, .int .i64 I, .int .i64 L, .slice ea en ec, .int .i64 C, .bool O, .slice da dn dc, .slice ga gn gc, .slice ha hn hc] 34) = W1 at *
              refine (Hi.out _).mono ?_
              rintro e0 w0 ⟨rfl, rfl⟩
              go_wp2_with fail
              refine (Hn.out _).mono ?_
              rintro e0 w0 ⟨rfl, rfl⟩
              go_wp2_with fail
              refine (He.out _).mono ?_
              rintro e0 w0 ⟨rfl, rfl⟩
              go_wp2_with fail
              refine (Ho.out _).mono ?_
              rintro e0 w0 ⟨rfl, rfl⟩
              go_wp2_with fail
              refine (Hd.out _).mono ?_
              rintro e0 w0 ⟨rfl, rfl⟩
              go_wp2_with fail
              go_ret
              exact ⟨rfl, bB⟩
            · have phn : decide (0 < (hn : Int)) = false := by simpa using hhn
              have qhn : decide ((hn : Int) > 0) = false := phn
              rw [show (!(_ : Bool)) = true from by rw [qL, pen, qC, pdn, pgn, phn]; rfl]
              go_enter Tryd.func14, Tryd.ntmps14
              go_wp2_with fail
              obtain ⟨b0, b1, b2, b3, b4, b5, b6, b7, b8, b9, b10, b11⟩ := box12z w 34 (.int .i64 K) (.int .i64 F) (.int .i64 T) (.int .i64 M) (.int .i64 I) (.int .i64 L) (.slice ea en ec) (.int .i64 C) (.bool O) (.slice da dn dc) (.slice ga gn gc) (.slice ha hn hc)
              have bB := alloc_below w (.cells #[.int .i64 K, .int .i64 F, .int .i64 T, .int .i64 M, .int .i64 I, .int .i64 L, .slice ea en ec, .int .i64 C, .bool O, .slice da dn dc, .slice ga gn gc, .slice ha hn hc] 34)
              have bL : w.heap.size < (w.alloc (.cells #[.int .i64 K, .int .i64 F, .int .i64 T, .int .i64 M, .int .i64 I, .int .i64 L, .slice ea en ec, .int .i64 C, .bool O, .slice da dn dc, .slice ga gn gc, .slice ha hn hc] 34)).heap.size := by simp
              generalize w.alloc (.cells #[.int .i64 K, .int .i64 F, .int .i64 T, .int .i64 M, .int .i64 I, .int .i64 L, .slice ea en ec, .int .i64 C, .bool O, .slice da dn dc, .slice ga gn gc, .slice ha hn hc] 34) = W1 at *
              refine (Hi.out _).mono ?_
              rintro e0 w0 ⟨rfl, rfl⟩
              go_wp2_with fail
              refine (Hn.out _).mono ?_
              rintro e0 w0 ⟨rfl, rfl⟩
              go_wp2_with fail
              refine (He.out _).mono ?_
              rintro e0 w0 ⟨rfl, rfl⟩
              go_wp2_with fail
              refine (Ho.out _).mono ?_
              rintro e0 w0 ⟨rfl, rfl⟩
              go_wp2_with fail
              refine (Hd.out _).mono ?_
              rintro e0 w0 ⟨rfl, rfl⟩
              go_wp2_with fail
              go_ret
              exact ⟨rfl, bB⟩

set_option maxRecDepth 10000 in
set_option maxHeartbeats 8000000 in
theorem lz_5 (m : Mg) (w : World) :
    Calls Tryd.prog 14 #[m.v, .string ⟨#[105, 100]⟩] w fun e w' => e = .returned (.bool (zB true false false false true m)) ∧ Below w.heap.size w w' := by
  obtain ⟨K, F, T, M, I, L, ea, en, ec, C, O, da, dn, dc, ga, gn, gc, ha, hn, hc, es, ds, ps, bs⟩ := m
  unfold zB
  simp only
  have Hi := hidP (fun W => in14_r ⟨#[105, 100]⟩ 105 true (by decide) (by decide) W)
  have Hn := hidP (fun W => in14_r ⟨#[105, 100]⟩ 110 false (by decide) (by decide) W)
  have He := hidP (fun W => in14_r ⟨#[105, 100]⟩ 101 false (by decide) (by decide) W)
  have Ho := hidP (fun W => in14_r ⟨#[105, 100]⟩ 111 false (by decide) (by decide) W)
  have Hd := hidP (fun W => in14_r ⟨#[105, 100]⟩ 100 true (by decide) (by decide) W)
  by_cases hen : 0 < (en : Int)
  · have pen : decide (0 < (en : Int)) = true := by simpa using hen
    have qen : decide ((en : Int) > 0) = true := pen
    rw [show (!(_ : Bool)) = false from by rw [pen]; rfl]
    go_enter Tryd.func14, Tryd.ntmps14
    go_wp2_with fail
    obtain ⟨b0, b1, b2, b3, b4, b5, b6, b7, b8, b9, b10, b11⟩ := box12z w 34 (.int .i64 K) (.int .i64 F) (.int .i64 T) (.int .i64 M) (.int .i64 I) (.int .i64 L) (.slice ea en ec) (.int .i64 C) (.bool O) (.slice da dn dc) (.slice ga gn gc) (.slice ha hn hc)
    have bB := alloc_below w (.cells #[.int .i64 K, .int .i64 F, .int .i64 T, .int .i64 M, .int .i64 I, .int .i64 L, .slice ea en ec, .int .i64 C, .bool O, .slice da dn dc, .slice ga gn gc, .slice ha hn hc] 34)
    have bL : w.heap.size < (w.alloc (.cells #[.int .i64 K, .int .i64 F, .int .i64 T, .int .i64 M, .int .i64 I, .int .i64 L, .slice ea en ec, .int .i64 C, .bool O, .slice da dn dc, .slice ga gn gc, .slice ha hn hc] 34)).heap.size := by simp
    generalize w.alloc (.cells #[.int .i64 K, .int .i64 F, .int .i64 T, .int .i64 M, .int .i64 I, .int .i64 L, .slice ea en ec, .int .i64 C, .bool O, .slice da dn dc, .slice ga gn gc, .slice ha hn hc] 34) = W1 at *
    refine (Hi.out _).mono ?_
    rintro e0 w0 ⟨rfl, rfl⟩
    go_wp2_with fail
    refine (He.out _).mono ?_
    rintro e0 w0 ⟨rfl, rfl⟩
    go_wp2_with fail
    go_ret
    exact ⟨rfl, bB⟩
  · have pen : decide (0 < (en : Int)) = false := by simpa using hen
    have qen : decide ((en : Int) > 0) = false := pen
    by_cases hC : C ≠ 0
    · have pC : (C == 0) = false := by simpa using hC
      have qC : (C != 0) = true := by show (!(C == 0)) = true; rw [pC]; rfl
      rw [show (!(_ : Bool)) = false from by rw [pen, qC]; rfl]
      go_enter Tryd.func14, Tryd.ntmps14
      go_wp2_with fail
      obtain ⟨b0, b1, b2, b3, b4, b5, b6, b7, b8, b9, b10, b11⟩ := box12z w 34 (.int .i64 K) (.int .i64 F) (.int .i64 T) (.int .i64 M) (.int .i64 I) (.int .i64 L) (.slice ea en ec) (.int .i64 C) (.bool O) (.slice da dn dc) (.slice ga gn gc) (.slice ha hn hc)
      have bB := alloc_below w (.cells #[.int .i64 K, .int .i64 F, .int .i64 T, .int .i64 M, .int .i64 I, .int .i64 L, .slice ea en ec, .int .i64 C, .bool O, .slice da dn dc, .slice ga gn gc, .slice ha hn hc] 34)
      have bL : w.heap.size < (w.alloc (.cells #[.int .i64 K, .int .i64 F, .int .i64 T, .int .i64 M, .int .i64 I, .int .i64 L, .slice ea en ec, .int .i64 C, .bool O, .slice da dn dc, .slice ga gn gc, .slice ha hn hc] 34)).heap.size := by simp
      generalize w.alloc (.cells #[.int .i64 K, .int .i64 F, .int .i64 T, .int .i64 M, .int .i64 I, .int .i64 L, .slice ea en ec, .int .i64 C, .bool O, .slice da dn dc, .slice ga gn gc, .slice ha hn hc] 34) = W1 at *
      refine (Hi.out _).mono ?_
      rintro e0 w0 ⟨rfl, rfl⟩
      go_wp2_with fail
      refine (He.out _).mono ?_
      rintro e0 w0 ⟨rfl, rfl⟩
      go_wp2_with fail
      go_ret
      exact ⟨rfl, bB⟩
    · have pC : (C == 0) = true := by simpa using hC
      have qC : (C != 0) = false := by show (!(C == 0)) = false; rw [pC]; rfl
      cases hO : O
      case' true =>
        rw [show (!(_ : Bool)) = false from by rw [pen, qC]; rfl]
        subst hO
        go_enter Tryd.func14, Tryd.ntmps14
        go_wp2_with fail
        obtain ⟨b0, b1, b2, b3, b4, b5, b6, b7, b8, b9, b10, b11⟩ := box12z w 34 (.int .i64 K) (.int .i64 F) (.int .i64 T) (.int .i64 M) (.int .i64 I) (.int .i64 L) (.slice ea en ec) (.int .i64 C) (.bool true) (.slice da dn dc) (.slice ga gn gc) (.slice ha hn hc)
        have bB := alloc_below w (.cells #[.int .i64 K, .int .i64 F, .int .i64 T, .int .i64 M, .int .i64 I, .int .i64 L, .slice ea en ec, .int .i64 C, .bool true, .slice da dn dc, .slice ga gn gc, .slice ha hn hc] 34)
        have bL : w.heap.size < (w.alloc (.cells #[.int .i64 K, .int .i64 F, .int .i64 T, .int .i64 M, .int .i64 I, .int .i64 L, .slice ea en ec, .int .i64 C, .bool true, .slice da dn dc, .slice ga gn gc, .slice ha hn hc] 34)).heap.size := by simp
        generalize w.alloc (.cells #[.int .i64 K, .int .i64 F, .int .i64 T, .int .i64 M, .int .i64 I, .int .i64 L, .slice ea en ec, .int .i64 C, .bool true, .slice da dn dc, .slice ga gn gc, .slice ha hn hc] 34) = W1 at *
        refine (Hi.out _).mono ?_
        rintro e0 w0 ⟨rfl, rfl⟩
        go_wp2_with fail
        refine (He.out _).mono ?_
        rintro e0 w0 ⟨rfl, rfl⟩
        go_wp2_with fail
        refine (Ho.out _).mono ?_
        rintro e0 w0 ⟨rfl, rfl⟩
        go_wp2_with fail
        go_ret
        exact ⟨rfl, bB⟩
      case' false =>
        rw [show (!(_ : Bool)) = true from by rw [pen, qC]; rfl]
        subst hO
        go_enter Tryd.func14, Tryd.ntmps14
        go_wp2_with fail
        obtain ⟨b0, b1, b2, b3, b4, b5, b6, b7, b8, b9, b10, b11⟩ := box12z w 34 (.int .i64 K) (.int .i64 F) (.int .i64 T) (.int .i64 M) (.int .i64 I) (.int .i64 L) (.slice ea en ec) (.int .i64 C) (.bool false) (.slice da dn dc) (.slice ga gn gc) (.slice ha hn hc)
        have bB := alloc_below w (.cells #[.int .i64 K, .int .i64 F, .int .i64 T, .int .i64 M, .int .i64 I, .int .i64 L, .slice ea en ec, .int .i64 C, .bool false, .slice da dn dc, .slice ga gn gc, .slice ha hn hc] 34)
        have bL : w.heap.size < (w.alloc (.cells #[.int .i64 K, .int .i64 F, .int .i64 T, .int .i64 M, .int .i64 I, .int .i64 L, .slice ea en ec, .int .i64 C, .bool false, .slice da dn dc, .slice ga gn gc, .slice ha hn hc] 34)).heap.size := by simp
        generalize w.alloc (.cells #[.int .i64 K, .int .i64 F, .int .i64 T, .int .i64 M, .int .i64 I, .int .i64 L, .slice ea en ec, .int .i64 C, .bool false, .slice da dn dc, .slice ga gn gc, .slice ha hn hc] 34) = W1 at *
        refine (Hi.out _).mono ?_
        rintro e0 w0 ⟨rfl, rfl⟩
        go_wp2_with fail
        refine (He.out _).mono ?_
        rintro e0 w0 ⟨rfl, rfl⟩
        go_wp2_with fail
        refine (Ho.out _).mono ?_
        rintro e0 w0 ⟨rfl, rfl⟩
        go_wp2_with fail
        refine (Hd.out _).mono ?_
        rintro e0 w0 ⟨rfl, rfl⟩
        go_wp2_with fail
        go_ret
        exact ⟨rfl, bB⟩

end Go.Proofs.YtgenjjhchnnpnaaDoor
